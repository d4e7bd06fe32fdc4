/- What package front's Encode answers where the body is written by the writer named parse. Condition: what is asked is of at most so many and so long texts (Few).
   What package front's Encode answers where the body is written by the writer named bind. Condition: what is asked is of at most so many and so long texts (Few).
   What package front's Encode answers where the body is written by the writer named named. Condition: what is asked is of at most so many and so long texts (Few).
   What package front's Encode answers where the body is written by the writer named execute. Condition: what is asked is of at most so many and so long texts (Few). -/
import Derived.Test.YtojgeilihoilnaaM19
set_option linter.unusedSimpArgs false
set_option linter.unusedVariables false
namespace Go.Proofs.Ytojgeilihoilnaa
open Go.ChangeShapes Go.WideShapes Go.ChangeAt Go.RowKit
set_option linter.unusedVariables false
attribute [local go_sem ↓] Go.wp_at_zero Go.wp_at_succ

set_option maxHeartbeats 2000000 in
set_option maxRecDepth 100000 in
theorem enc_parse (a : Ask) (kv vv av nv fv : Value) (w : World) (i rd : Nat) (hk : Instr.findNow (.int .u8) (u8 a.kind) kEs.toList 0 = some (some (i, .agg #[fnV rd, fnV 35]))) (f : Few a)
    (har : AR (fun i => i < w.heap.size) w (.agg (askV a kv vv av nv fv)) a) (hla : Lens a) (d : Kd) (hbl : (bodyD d a).length ≤ 1000000000)
    (hwr : ∀ (W : Nat) (w' : World), WB w' W [] → AR (fun i => i < w'.heap.size ∧ i ≠ W) w' (.agg (askV a kv vv av nv fv)) a → Calls Try.prog 35 #[.pointer (some ⟨W, 0, none⟩), .agg (askV a kv vv av nv fv)] w' (WsP W (bodyD d a) w')) :
    Calls Try.prog 13 #[.agg (askV a kv vv av nv fv)] w (EncP (encR a d) w) := by
  have hml := fun w1 => @mi2_late w w1 (askV a kv vv av nv fv) (fnV rd) (fnV 35)
  have hme := fun w1 => @mi2_early w w1 (askV a kv vv av nv fv) .nilFunc .nilFunc (fnV rd) (fnV 35)
  have hsh : ∀ W : World, Below w.heap.size w W → Calls Try.prog 22 #[.agg (askV a kv vv av nv fv)] W fun e w' => e = .returned (.bool (shortB a)) ∧ Below W.heap.size W w' := fun W hB => by
    obtain ⟨kv', vv', av', nv', fv', e, o1, o2, o3, o4, o5⟩ := (har.step (P' := fun i => i < W.heap.size) (fun b hb => hB.block b hb) (fun b hb => Nat.lt_of_lt_of_le hb hB.size)).ex
    injection e with e
    rw [e]
    exact short_any a kv' vv' av' nv' fv' W f o1 o2 o3 o5
  have hdec := fun W => dec_any a.kind (ba (bodyD d a)) W (by rw [ba_size]; omega)
  rw [ba_list] at hdec
  have harW : ∀ W : World, Below w.heap.size w W → AR (fun i => i < W.heap.size) W (.agg (askV a kv vv av nv fv)) a := fun W hB => har.step (fun b hb => hB.block b hb) (fun b hb => Nat.lt_of_lt_of_le hb hB.size)
  have harX : ∀ (W : World) (X : Nat), Below w.heap.size w W → w.heap.size ≤ X → AR (fun i => i < W.heap.size ∧ i ≠ X) W (.agg (askV a kv vv av nv fv)) a := fun W X hB hX => har.step (fun b hb => hB.block b hb) (fun b hb => ⟨Nat.lt_of_lt_of_le hb hB.size, by omega⟩)
  unfold u8 at hk
  obtain ⟨DR, hDR⟩ : ∃ DR, decP a.kind (bodyD d a) = DR := ⟨_, rfl⟩
  obtain ⟨da, er⟩ := DR
  rw [hDR] at hdec
  have HR : Hid (encR a d = if shortB a = true ∧ er = 0 ∧ a = da then ((a.kind, bodyD d a), 0) else ((0, []), 4)) := Lib.hid (by unfold encR; rw [hDR])
  have HDN : er ≠ 0 → da = {} := fun h => by
    have := dec_no (k := a.kind) (s := bodyD d a) (by rw [hDR]; exact h)
    rw [hDR] at this
    injection this
  have HLD : Hid (er = 0 → Lens da) := Lib.hid (fun h => by
    have := (dec_inv (k := a.kind) (s := bodyD d a) (by rw [hDR]; exact h)).1
    rw [hDR] at this
    have g := this.1
    exact ⟨by have := g.keys100; simp only at this ⊢; omega, by have := g.keys100; have := g.vals; simp only at *; omega, by have := g.args100; simp only at this ⊢; omega, by have := g.args100; have := g.null; simp only at *; omega, by have := g.fmts100; simp only at this ⊢; omega⟩)
  clear HDN hDR
  obtain ⟨B, hB0⟩ : ∃ B, bodyD d a = B := ⟨_, rfl⟩
  rw [hB0] at hwr hdec HR hbl
  obtain ⟨sb, hsb⟩ : ∃ sb, shortB a = sb := ⟨_, rfl⟩
  rw [hsb] at hsh HR
  clear hsb hB0
  rw [box_cut] at hml hme hwr hsh harW harX ⊢
  clear har
  go_enter Try.func13, Try.ntmps13
  go_upto_region 1 with fail
  go_cut [4, 5] (fun s4 s5 wx => ∃ X, s4 = .pointer (some ⟨X, 0, none⟩) ∧ s5 = .bool true ∧ Mi2 w #[.int .u8 (a.kind.toNat : Int), .string (ba a.name), .string (ba a.portal), .string (ba a.sql), kv, vv, av, nv, fv, .int .i64 a.most, .int .u8 (a.what.toNat : Int), .bool a.cancel, .int .i64 a.pid, .int .i64 a.secret] X (fnV rd) (fnV 35) wx)
  case first =>
    go_region_held3 (fun w' => w'.cell? ⟨w.heap.size, 0, none⟩ = some (.int .u8 (a.kind.toNat : Int))) (go_keep) ((go_at_call 17; refine (kinds_kp _).mono ?_; rintro e w1 ⟨b, rfl, hb, hB⟩; have hl := look_yes w1 b _ _ hb _ _ _ hk; have hl2 := look_yes (w1.alloc (.cells #[.nilFunc, .nilFunc] 42)) b _ _ ((Below.heap_alloc w1 _ b (Array.getElem?_eq_some_iff.1 hb).1).trans hb) _ _ _ hk; have c0 : w1.cell? ⟨w.heap.size, 0, none⟩ = some (.int .u8 (a.kind.toNat : Int)) := (by rw [(bcell hB).1 _ _ (by simp; omega)]; simp [go_sem]); have n1 : w1.heap.size ≠ w.heap.size := (by have := hB.size; simp at this; omega); have n2 : w.heap.size ≠ w1.heap.size := n1.symm; have n3 : w.heap.size + 2 ≠ w.heap.size := (by omega); obtain ⟨hcc, hff⟩ := bcell hB))
    all_goals
      clear hcc hff hl hl2
      go_wp2_with fail
      go_meet
      first
        | exact ⟨w1.heap.size, rfl, rfl, hml _ hB⟩
        | exact ⟨w.heap.size + 2, rfl, rfl, hme _ hB⟩
  case rest =>
    obtain ⟨X, rfl, rfl, hM⟩ := hcut
    clear hml hme hk
    obtain ⟨c0, c1, c2, c3, c4, c5, c6, c7, c8, c9, c10, c11, c12, c13⟩ := hM.b0.all14
    cases sb
    · clear hdec hwr harW harX HLD
      go_wp2_with fail
      refine (hsh _ hM.bel).mono ?_; rintro e w2 ⟨rfl, hb2⟩
      have hM2 := hM.below hb2
      clear hsh c0 c1 c2 c3 c4 c5 c6 c7 c8 c9 c10 c11 c12 c13 hb2 hM
      have f0 := hM2.b1.frozen 0
      have f1 := hM2.b1.frozen 1
      have z0 := hM2.b1.cell 0
      have z1 := hM2.b1.cell 1
      try simp only [List.getElem?_toArray, List.getElem?_cons_zero, List.getElem?_cons_succ] at z0 z1
      have hb9 := (hM2.b1.set_ 0 (.int .u8 0)).set_ 1 (.string ⟨#[]⟩)
      have hB9 := (hM2.bel.setCell (p := ⟨w.heap.size + 1, 0, none⟩) (by simp) (.int .u8 0)).setCell (p := ⟨w.heap.size + 1, 1, none⟩) (by simp) (.string ⟨#[]⟩)
      go_wp2
      refine bodyPost_ret (v := .tuple #[.agg #[.int .u8 0, .string ⟨#[]⟩], .int .i64 4]) (enc_out _ _ _ _ _ (by rfl) (by rfl) hb9 rfl) rfl ?_
      rw [HR.out, if_neg (by rintro ⟨h, _⟩; cases h)]
      exact ⟨rfl, hB9⟩
    · go_wp2_with fail
      refine (hsh _ hM.bel).mono ?_; rintro e w2 ⟨rfl, hb2⟩
      have hM2 := hM.below hb2
      clear hsh c0 c1 c2 c3 c4 c5 c6 c7 c8 c9 c10 c11 c12 c13 hb2 hM
      obtain ⟨c0, c1, c2, c3, c4, c5, c6, c7, c8, c9, c10, c11, c12, c13⟩ := hM2.b0.all14
      have lX1 : w2.cell? ⟨X, 1, none⟩ = some (fnV 35) := hM2.bX.cell 1
      have l0 := hM2.b0.lt
      have l1 := hM2.b1.lt
      have lX := hM2.bX.lt
      go_wp2_with fail
      have hM3 := hM2.below ((Below.refl w2.heap.size w2).alloc (Nat.le_refl _) (.cells #[.string ⟨#[]⟩] 54))
      refine (hwr w2.heap.size _ (Blk.new w2 54 #[.string ⟨#[]⟩]) (harX _ _ hM3.bel (by omega))).mono ?_; rintro e w4 ⟨rfl, hwb, hk4⟩
      have hM4 := hM3.kept hk4 (by simp; omega) (by simp; omega) (by simp; omega) (by intro i hi; rw [List.mem_singleton.1 hi]; omega)
      have d0 : w4.cell? ⟨w.heap.size, 0, none⟩ = some (.int .u8 (a.kind.toNat : Int)) := hM4.b0.cell 0
      have d1 : w4.cell? ⟨w2.heap.size, 0, none⟩ = some (.string (ba B)) := Blk.cell hwb 0
      have lw : w2.heap.size < w4.heap.size := Blk.lt hwb
      clear hwr harX hM2 hM3 c0 c1 c2 c3 c4 c5 c6 c7 c8 c9 c10 c11 c12 c13 lX1 hwb hk4
      go_wp2_with fail
      have hMg := Blk.new w4 23 #[.int .u8 (a.kind.toNat : Int), .string (ba B)]
      have hM5 := hM4.below ((Below.refl w4.heap.size w4).alloc (Nat.le_refl _) (.cells #[.int .u8 (a.kind.toNat : Int), .string (ba B)] 23))
      refine (hdec _).mono ?_; rintro e w5 ⟨v, rfl, hv, hb5⟩
      have hM6 := hM5.below hb5
      have hMh := hMg.below hb5 hMg.lt
      obtain ⟨kv', vv', av', nv', fv', rfl, o1, o2, o3, o4, o5⟩ := hv.ex
      obtain ⟨A1, p1, rfl, _, _⟩ := o1.form
      obtain ⟨A2, p2, rfl, _, _⟩ := o2.form
      obtain ⟨A3, p3, rfl, _, _⟩ := o3.form
      obtain ⟨A4, p4, rfl, _, _⟩ := o4.form
      obtain ⟨A5, p5, rfl, _, _⟩ := o5.form
      rw [box_cut da]
      clear hdec d0 d1 hM4 hM5 hMg hb5
      have l4 : w4.heap.size < w5.heap.size := hMh.lt
      have l0 := hM6.b0.lt
      have l1 := hM6.b1.lt
      have hBB := (Below.refl w5.heap.size w5).alloc (Nat.le_refl _) (.cells (askV da (.slice A1 (strs da.keys).length p1) (.slice A2 (strs da.vals).length p2) (.slice A3 (strs da.args).length p3) (.slice A4 (bools da.null).length p4) (.slice A5 (ints da.formats).length p5)) 29)
      have hM7 := hM6.below hBB
      have hMi := hMh.below hBB hMh.lt
      have hv7 : AR (fun i => i < (w5.alloc (.cells (askV da (.slice A1 (strs da.keys).length p1) (.slice A2 (strs da.vals).length p2) (.slice A3 (strs da.args).length p3) (.slice A4 (bools da.null).length p4) (.slice A5 (ints da.formats).length p5)) 29)).heap.size) (w5.alloc (.cells (askV da (.slice A1 (strs da.keys).length p1) (.slice A2 (strs da.vals).length p2) (.slice A3 (strs da.args).length p3) (.slice A4 (bools da.null).length p4) (.slice A5 (ints da.formats).length p5)) 29)) (.agg (askV da (.slice A1 (strs da.keys).length p1) (.slice A2 (strs da.vals).length p2) (.slice A3 (strs da.args).length p3) (.slice A4 (bools da.null).length p4) (.slice A5 (ints da.formats).length p5))) da :=
        AR.step ⟨(.slice A1 (strs da.keys).length p1), (.slice A2 (strs da.vals).length p2), (.slice A3 (strs da.args).length p3), (.slice A4 (bools da.null).length p4), (.slice A5 (ints da.formats).length p5), rfl, o1, o2, o3, o4, o5⟩ (fun b hb => hBB.block b hb.2) (fun b hb => by have := hb.2; simp; omega)
      have ha7 := harW _ hM7.bel
      clear o1 o2 o3 o4 o5 hv harW hBB
      rw [box_cut da] at hM7 hMi hv7 ha7
      by_cases he : er = 0
      · subst he
        obtain ⟨c0, c1, c2, c3, c4, c5, c6, c7, c8, c9, c10, c11, c12, c13⟩ := hM6.b0.all14
        have hlda := HLD.out rfl
        clear HLD
        cases heq : decide (a = da)
        all_goals
          go_wp2_with fail
          refine (same_any _ a da _ _ ha7 hv7 hla hlda).mono ?_; rintro e w7 ⟨rfl, hb7⟩
          rw [heq]
          have hM8 := hM7.below hb7
          have hMj := hMi.below hb7 hMi.lt
          clear c0 c1 c2 c3 c4 c5 c6 c7 c8 c9 c10 c11 c12 c13 hM6 hM7 hMh hMi ha7 hv7 hb7 hlda
        · have HN := Lib.hid (of_decide_eq_false heq)
          clear heq
          have f0 := hM8.b1.frozen 0
          have f1 := hM8.b1.frozen 1
          have z0 := hM8.b1.cell 0
          have z1 := hM8.b1.cell 1
          try simp only [List.getElem?_toArray, List.getElem?_cons_zero, List.getElem?_cons_succ] at z0 z1
          have hb9 := (hM8.b1.set_ 0 (.int .u8 0)).set_ 1 (.string ⟨#[]⟩)
          have hB9 := (hM8.bel.setCell (p := ⟨w.heap.size + 1, 0, none⟩) (by simp) (.int .u8 0)).setCell (p := ⟨w.heap.size + 1, 1, none⟩) (by simp) (.string ⟨#[]⟩)
          go_wp2
          refine bodyPost_ret (v := .tuple #[.agg #[.int .u8 0, .string ⟨#[]⟩], .int .i64 4]) (enc_out _ _ _ _ _ (by rfl) (by rfl) hb9 rfl) rfl ?_
          rw [HR.out, if_neg (by rintro ⟨_, _, h⟩; exact HN.out h)]
          exact ⟨rfl, hB9⟩
        · have HN := Lib.hid (of_decide_eq_true heq)
          clear heq
          have y0 : w7.cell? ⟨w4.heap.size, 0, none⟩ = some (.int .u8 (a.kind.toNat : Int)) := hMj.cell 0
          have y1 : w7.cell? ⟨w4.heap.size, 1, none⟩ = some (.string (ba B)) := hMj.cell 1
          have f0 := hM8.b1.frozen 0
          have f1 := hM8.b1.frozen 1
          have z0 := hM8.b1.cell 0
          have z1 := hM8.b1.cell 1
          try simp only [List.getElem?_toArray, List.getElem?_cons_zero, List.getElem?_cons_succ] at z0 z1
          have hb9 := (hM8.b1.set_ 0 (.int .u8 (a.kind.toNat : Int))).set_ 1 (.string (ba B))
          have hB9 := (hM8.bel.setCell (p := ⟨w.heap.size + 1, 0, none⟩) (by simp) (.int .u8 (a.kind.toNat : Int))).setCell (p := ⟨w.heap.size + 1, 1, none⟩) (by simp) (.string (ba B))
          go_wp2
          refine bodyPost_ret (v := .tuple #[.agg #[.int .u8 (a.kind.toNat : Int), .string (ba B)], .int .i64 0]) (enc_out _ _ _ _ _ (by rfl) (by rfl) hb9 rfl) rfl ?_
          rw [HR.out, if_pos (by first | exact ⟨rfl, rfl, HN.out⟩ | exact ⟨trivial, trivial, HN.out⟩ | exact ⟨rfl, trivial, HN.out⟩ | exact ⟨trivial, rfl, HN.out⟩)]
          exact ⟨rfl, hB9⟩
      · have hbe : (er != 0) = true := by simpa using he
        have HN := Lib.hid he
        clear he HLD ha7 hv7 hla hMi hMh
        have f0 := hM6.b1.frozen 0
        have f1 := hM6.b1.frozen 1
        have z0 : w5.cell? ⟨w.heap.size + 1, 0, none⟩ = some (.int .u8 0) := hM6.b1.cell 0
        have z1 : w5.cell? ⟨w.heap.size + 1, 1, none⟩ = some (.string ⟨#[]⟩) := hM6.b1.cell 1
        have hb9 := ((hM6.b1.set_ 0 (.int .u8 0)).set_ 1 (.string ⟨#[]⟩)).alloc (.cells #[.int .u8 (da.kind.toNat : Int), .string (ba da.name), .string (ba da.portal), .string (ba da.sql), .slice A1 (strs da.keys).length p1, .slice A2 (strs da.vals).length p2, .slice A3 (strs da.args).length p3, .slice A4 (bools da.null).length p4, .slice A5 (ints da.formats).length p5, .int .i64 da.most, .int .u8 (da.what.toNat : Int), .bool da.cancel, .int .i64 da.pid, .int .i64 da.secret] 29)
        have hB9 := ((hM6.bel.setCell (p := ⟨w.heap.size + 1, 0, none⟩) (by simp) (.int .u8 0)).setCell (p := ⟨w.heap.size + 1, 1, none⟩) (by simp) (.string ⟨#[]⟩)).alloc (by simp [World.setCell]; omega) (.cells #[.int .u8 (da.kind.toNat : Int), .string (ba da.name), .string (ba da.portal), .string (ba da.sql), .slice A1 (strs da.keys).length p1, .slice A2 (strs da.vals).length p2, .slice A3 (strs da.args).length p3, .slice A4 (bools da.null).length p4, .slice A5 (ints da.formats).length p5, .int .i64 da.most, .int .u8 (da.what.toNat : Int), .bool da.cancel, .int .i64 da.pid, .int .i64 da.secret] 29)
        go_wp2
        refine bodyPost_ret (v := .tuple #[.agg #[.int .u8 0, .string ⟨#[]⟩], .int .i64 4]) (enc_out _ _ _ _ _ (by rfl) (by rfl) hb9 rfl) rfl ?_
        rw [HR.out, if_neg (by rintro ⟨_, h, _⟩; exact HN.out h)]
        exact ⟨rfl, hB9⟩
end Go.Proofs.Ytojgeilihoilnaa
namespace Go.Proofs.Ytojgeilihoilnaa
open Go.ChangeShapes Go.WideShapes Go.ChangeAt Go.RowKit
set_option linter.unusedVariables false
attribute [local go_sem ↓] Go.wp_at_zero Go.wp_at_succ

set_option maxHeartbeats 2000000 in
set_option maxRecDepth 100000 in
theorem enc_bind (a : Ask) (kv vv av nv fv : Value) (w : World) (i rd : Nat) (hk : Instr.findNow (.int .u8) (u8 a.kind) kEs.toList 0 = some (some (i, .agg #[fnV rd, fnV 37]))) (f : Few a)
    (har : AR (fun i => i < w.heap.size) w (.agg (askV a kv vv av nv fv)) a) (hla : Lens a) (d : Kd) (hbl : (bodyD d a).length ≤ 1000000000)
    (hwr : ∀ (W : Nat) (w' : World), WB w' W [] → AR (fun i => i < w'.heap.size ∧ i ≠ W) w' (.agg (askV a kv vv av nv fv)) a → Calls Try.prog 37 #[.pointer (some ⟨W, 0, none⟩), .agg (askV a kv vv av nv fv)] w' (WsP W (bodyD d a) w')) :
    Calls Try.prog 13 #[.agg (askV a kv vv av nv fv)] w (EncP (encR a d) w) := by
  have hml := fun w1 => @mi2_late w w1 (askV a kv vv av nv fv) (fnV rd) (fnV 37)
  have hme := fun w1 => @mi2_early w w1 (askV a kv vv av nv fv) .nilFunc .nilFunc (fnV rd) (fnV 37)
  have hsh : ∀ W : World, Below w.heap.size w W → Calls Try.prog 22 #[.agg (askV a kv vv av nv fv)] W fun e w' => e = .returned (.bool (shortB a)) ∧ Below W.heap.size W w' := fun W hB => by
    obtain ⟨kv', vv', av', nv', fv', e, o1, o2, o3, o4, o5⟩ := (har.step (P' := fun i => i < W.heap.size) (fun b hb => hB.block b hb) (fun b hb => Nat.lt_of_lt_of_le hb hB.size)).ex
    injection e with e
    rw [e]
    exact short_any a kv' vv' av' nv' fv' W f o1 o2 o3 o5
  have hdec := fun W => dec_any a.kind (ba (bodyD d a)) W (by rw [ba_size]; omega)
  rw [ba_list] at hdec
  have harW : ∀ W : World, Below w.heap.size w W → AR (fun i => i < W.heap.size) W (.agg (askV a kv vv av nv fv)) a := fun W hB => har.step (fun b hb => hB.block b hb) (fun b hb => Nat.lt_of_lt_of_le hb hB.size)
  have harX : ∀ (W : World) (X : Nat), Below w.heap.size w W → w.heap.size ≤ X → AR (fun i => i < W.heap.size ∧ i ≠ X) W (.agg (askV a kv vv av nv fv)) a := fun W X hB hX => har.step (fun b hb => hB.block b hb) (fun b hb => ⟨Nat.lt_of_lt_of_le hb hB.size, by omega⟩)
  unfold u8 at hk
  obtain ⟨DR, hDR⟩ : ∃ DR, decP a.kind (bodyD d a) = DR := ⟨_, rfl⟩
  obtain ⟨da, er⟩ := DR
  rw [hDR] at hdec
  have HR : Hid (encR a d = if shortB a = true ∧ er = 0 ∧ a = da then ((a.kind, bodyD d a), 0) else ((0, []), 4)) := Lib.hid (by unfold encR; rw [hDR])
  have HDN : er ≠ 0 → da = {} := fun h => by
    have := dec_no (k := a.kind) (s := bodyD d a) (by rw [hDR]; exact h)
    rw [hDR] at this
    injection this
  have HLD : Hid (er = 0 → Lens da) := Lib.hid (fun h => by
    have := (dec_inv (k := a.kind) (s := bodyD d a) (by rw [hDR]; exact h)).1
    rw [hDR] at this
    have g := this.1
    exact ⟨by have := g.keys100; simp only at this ⊢; omega, by have := g.keys100; have := g.vals; simp only at *; omega, by have := g.args100; simp only at this ⊢; omega, by have := g.args100; have := g.null; simp only at *; omega, by have := g.fmts100; simp only at this ⊢; omega⟩)
  clear HDN hDR
  obtain ⟨B, hB0⟩ : ∃ B, bodyD d a = B := ⟨_, rfl⟩
  rw [hB0] at hwr hdec HR hbl
  obtain ⟨sb, hsb⟩ : ∃ sb, shortB a = sb := ⟨_, rfl⟩
  rw [hsb] at hsh HR
  clear hsb hB0
  rw [box_cut] at hml hme hwr hsh harW harX ⊢
  clear har
  go_enter Try.func13, Try.ntmps13
  go_upto_region 1 with fail
  go_cut [4, 5] (fun s4 s5 wx => ∃ X, s4 = .pointer (some ⟨X, 0, none⟩) ∧ s5 = .bool true ∧ Mi2 w #[.int .u8 (a.kind.toNat : Int), .string (ba a.name), .string (ba a.portal), .string (ba a.sql), kv, vv, av, nv, fv, .int .i64 a.most, .int .u8 (a.what.toNat : Int), .bool a.cancel, .int .i64 a.pid, .int .i64 a.secret] X (fnV rd) (fnV 37) wx)
  case first =>
    go_region_held3 (fun w' => w'.cell? ⟨w.heap.size, 0, none⟩ = some (.int .u8 (a.kind.toNat : Int))) (go_keep) ((go_at_call 17; refine (kinds_kp _).mono ?_; rintro e w1 ⟨b, rfl, hb, hB⟩; have hl := look_yes w1 b _ _ hb _ _ _ hk; have hl2 := look_yes (w1.alloc (.cells #[.nilFunc, .nilFunc] 42)) b _ _ ((Below.heap_alloc w1 _ b (Array.getElem?_eq_some_iff.1 hb).1).trans hb) _ _ _ hk; have c0 : w1.cell? ⟨w.heap.size, 0, none⟩ = some (.int .u8 (a.kind.toNat : Int)) := (by rw [(bcell hB).1 _ _ (by simp; omega)]; simp [go_sem]); have n1 : w1.heap.size ≠ w.heap.size := (by have := hB.size; simp at this; omega); have n2 : w.heap.size ≠ w1.heap.size := n1.symm; have n3 : w.heap.size + 2 ≠ w.heap.size := (by omega); obtain ⟨hcc, hff⟩ := bcell hB))
    all_goals
      clear hcc hff hl hl2
      go_wp2_with fail
      go_meet
      first
        | exact ⟨w1.heap.size, rfl, rfl, hml _ hB⟩
        | exact ⟨w.heap.size + 2, rfl, rfl, hme _ hB⟩
  case rest =>
    obtain ⟨X, rfl, rfl, hM⟩ := hcut
    clear hml hme hk
    obtain ⟨c0, c1, c2, c3, c4, c5, c6, c7, c8, c9, c10, c11, c12, c13⟩ := hM.b0.all14
    cases sb
    · clear hdec hwr harW harX HLD
      go_wp2_with fail
      refine (hsh _ hM.bel).mono ?_; rintro e w2 ⟨rfl, hb2⟩
      have hM2 := hM.below hb2
      clear hsh c0 c1 c2 c3 c4 c5 c6 c7 c8 c9 c10 c11 c12 c13 hb2 hM
      have f0 := hM2.b1.frozen 0
      have f1 := hM2.b1.frozen 1
      have z0 := hM2.b1.cell 0
      have z1 := hM2.b1.cell 1
      try simp only [List.getElem?_toArray, List.getElem?_cons_zero, List.getElem?_cons_succ] at z0 z1
      have hb9 := (hM2.b1.set_ 0 (.int .u8 0)).set_ 1 (.string ⟨#[]⟩)
      have hB9 := (hM2.bel.setCell (p := ⟨w.heap.size + 1, 0, none⟩) (by simp) (.int .u8 0)).setCell (p := ⟨w.heap.size + 1, 1, none⟩) (by simp) (.string ⟨#[]⟩)
      go_wp2
      refine bodyPost_ret (v := .tuple #[.agg #[.int .u8 0, .string ⟨#[]⟩], .int .i64 4]) (enc_out _ _ _ _ _ (by rfl) (by rfl) hb9 rfl) rfl ?_
      rw [HR.out, if_neg (by rintro ⟨h, _⟩; cases h)]
      exact ⟨rfl, hB9⟩
    · go_wp2_with fail
      refine (hsh _ hM.bel).mono ?_; rintro e w2 ⟨rfl, hb2⟩
      have hM2 := hM.below hb2
      clear hsh c0 c1 c2 c3 c4 c5 c6 c7 c8 c9 c10 c11 c12 c13 hb2 hM
      obtain ⟨c0, c1, c2, c3, c4, c5, c6, c7, c8, c9, c10, c11, c12, c13⟩ := hM2.b0.all14
      have lX1 : w2.cell? ⟨X, 1, none⟩ = some (fnV 37) := hM2.bX.cell 1
      have l0 := hM2.b0.lt
      have l1 := hM2.b1.lt
      have lX := hM2.bX.lt
      go_wp2_with fail
      have hM3 := hM2.below ((Below.refl w2.heap.size w2).alloc (Nat.le_refl _) (.cells #[.string ⟨#[]⟩] 54))
      refine (hwr w2.heap.size _ (Blk.new w2 54 #[.string ⟨#[]⟩]) (harX _ _ hM3.bel (by omega))).mono ?_; rintro e w4 ⟨rfl, hwb, hk4⟩
      have hM4 := hM3.kept hk4 (by simp; omega) (by simp; omega) (by simp; omega) (by intro i hi; rw [List.mem_singleton.1 hi]; omega)
      have d0 : w4.cell? ⟨w.heap.size, 0, none⟩ = some (.int .u8 (a.kind.toNat : Int)) := hM4.b0.cell 0
      have d1 : w4.cell? ⟨w2.heap.size, 0, none⟩ = some (.string (ba B)) := Blk.cell hwb 0
      have lw : w2.heap.size < w4.heap.size := Blk.lt hwb
      clear hwr harX hM2 hM3 c0 c1 c2 c3 c4 c5 c6 c7 c8 c9 c10 c11 c12 c13 lX1 hwb hk4
      go_wp2_with fail
      have hMg := Blk.new w4 23 #[.int .u8 (a.kind.toNat : Int), .string (ba B)]
      have hM5 := hM4.below ((Below.refl w4.heap.size w4).alloc (Nat.le_refl _) (.cells #[.int .u8 (a.kind.toNat : Int), .string (ba B)] 23))
      refine (hdec _).mono ?_; rintro e w5 ⟨v, rfl, hv, hb5⟩
      have hM6 := hM5.below hb5
      have hMh := hMg.below hb5 hMg.lt
      obtain ⟨kv', vv', av', nv', fv', rfl, o1, o2, o3, o4, o5⟩ := hv.ex
      obtain ⟨A1, p1, rfl, _, _⟩ := o1.form
      obtain ⟨A2, p2, rfl, _, _⟩ := o2.form
      obtain ⟨A3, p3, rfl, _, _⟩ := o3.form
      obtain ⟨A4, p4, rfl, _, _⟩ := o4.form
      obtain ⟨A5, p5, rfl, _, _⟩ := o5.form
      rw [box_cut da]
      clear hdec d0 d1 hM4 hM5 hMg hb5
      have l4 : w4.heap.size < w5.heap.size := hMh.lt
      have l0 := hM6.b0.lt
      have l1 := hM6.b1.lt
      have hBB := (Below.refl w5.heap.size w5).alloc (Nat.le_refl _) (.cells (askV da (.slice A1 (strs da.keys).length p1) (.slice A2 (strs da.vals).length p2) (.slice A3 (strs da.args).length p3) (.slice A4 (bools da.null).length p4) (.slice A5 (ints da.formats).length p5)) 29)
      have hM7 := hM6.below hBB
      have hMi := hMh.below hBB hMh.lt
      have hv7 : AR (fun i => i < (w5.alloc (.cells (askV da (.slice A1 (strs da.keys).length p1) (.slice A2 (strs da.vals).length p2) (.slice A3 (strs da.args).length p3) (.slice A4 (bools da.null).length p4) (.slice A5 (ints da.formats).length p5)) 29)).heap.size) (w5.alloc (.cells (askV da (.slice A1 (strs da.keys).length p1) (.slice A2 (strs da.vals).length p2) (.slice A3 (strs da.args).length p3) (.slice A4 (bools da.null).length p4) (.slice A5 (ints da.formats).length p5)) 29)) (.agg (askV da (.slice A1 (strs da.keys).length p1) (.slice A2 (strs da.vals).length p2) (.slice A3 (strs da.args).length p3) (.slice A4 (bools da.null).length p4) (.slice A5 (ints da.formats).length p5))) da :=
        AR.step ⟨(.slice A1 (strs da.keys).length p1), (.slice A2 (strs da.vals).length p2), (.slice A3 (strs da.args).length p3), (.slice A4 (bools da.null).length p4), (.slice A5 (ints da.formats).length p5), rfl, o1, o2, o3, o4, o5⟩ (fun b hb => hBB.block b hb.2) (fun b hb => by have := hb.2; simp; omega)
      have ha7 := harW _ hM7.bel
      clear o1 o2 o3 o4 o5 hv harW hBB
      rw [box_cut da] at hM7 hMi hv7 ha7
      by_cases he : er = 0
      · subst he
        obtain ⟨c0, c1, c2, c3, c4, c5, c6, c7, c8, c9, c10, c11, c12, c13⟩ := hM6.b0.all14
        have hlda := HLD.out rfl
        clear HLD
        cases heq : decide (a = da)
        all_goals
          go_wp2_with fail
          refine (same_any _ a da _ _ ha7 hv7 hla hlda).mono ?_; rintro e w7 ⟨rfl, hb7⟩
          rw [heq]
          have hM8 := hM7.below hb7
          have hMj := hMi.below hb7 hMi.lt
          clear c0 c1 c2 c3 c4 c5 c6 c7 c8 c9 c10 c11 c12 c13 hM6 hM7 hMh hMi ha7 hv7 hb7 hlda
        · have HN := Lib.hid (of_decide_eq_false heq)
          clear heq
          have f0 := hM8.b1.frozen 0
          have f1 := hM8.b1.frozen 1
          have z0 := hM8.b1.cell 0
          have z1 := hM8.b1.cell 1
          try simp only [List.getElem?_toArray, List.getElem?_cons_zero, List.getElem?_cons_succ] at z0 z1
          have hb9 := (hM8.b1.set_ 0 (.int .u8 0)).set_ 1 (.string ⟨#[]⟩)
          have hB9 := (hM8.bel.setCell (p := ⟨w.heap.size + 1, 0, none⟩) (by simp) (.int .u8 0)).setCell (p := ⟨w.heap.size + 1, 1, none⟩) (by simp) (.string ⟨#[]⟩)
          go_wp2
          refine bodyPost_ret (v := .tuple #[.agg #[.int .u8 0, .string ⟨#[]⟩], .int .i64 4]) (enc_out _ _ _ _ _ (by rfl) (by rfl) hb9 rfl) rfl ?_
          rw [HR.out, if_neg (by rintro ⟨_, _, h⟩; exact HN.out h)]
          exact ⟨rfl, hB9⟩
        · have HN := Lib.hid (of_decide_eq_true heq)
          clear heq
          have y0 : w7.cell? ⟨w4.heap.size, 0, none⟩ = some (.int .u8 (a.kind.toNat : Int)) := hMj.cell 0
          have y1 : w7.cell? ⟨w4.heap.size, 1, none⟩ = some (.string (ba B)) := hMj.cell 1
          have f0 := hM8.b1.frozen 0
          have f1 := hM8.b1.frozen 1
          have z0 := hM8.b1.cell 0
          have z1 := hM8.b1.cell 1
          try simp only [List.getElem?_toArray, List.getElem?_cons_zero, List.getElem?_cons_succ] at z0 z1
          have hb9 := (hM8.b1.set_ 0 (.int .u8 (a.kind.toNat : Int))).set_ 1 (.string (ba B))
          have hB9 := (hM8.bel.setCell (p := ⟨w.heap.size + 1, 0, none⟩) (by simp) (.int .u8 (a.kind.toNat : Int))).setCell (p := ⟨w.heap.size + 1, 1, none⟩) (by simp) (.string (ba B))
          go_wp2
          refine bodyPost_ret (v := .tuple #[.agg #[.int .u8 (a.kind.toNat : Int), .string (ba B)], .int .i64 0]) (enc_out _ _ _ _ _ (by rfl) (by rfl) hb9 rfl) rfl ?_
          rw [HR.out, if_pos (by first | exact ⟨rfl, rfl, HN.out⟩ | exact ⟨trivial, trivial, HN.out⟩ | exact ⟨rfl, trivial, HN.out⟩ | exact ⟨trivial, rfl, HN.out⟩)]
          exact ⟨rfl, hB9⟩
      · have hbe : (er != 0) = true := by simpa using he
        have HN := Lib.hid he
        clear he HLD ha7 hv7 hla hMi hMh
        have f0 := hM6.b1.frozen 0
        have f1 := hM6.b1.frozen 1
        have z0 : w5.cell? ⟨w.heap.size + 1, 0, none⟩ = some (.int .u8 0) := hM6.b1.cell 0
        have z1 : w5.cell? ⟨w.heap.size + 1, 1, none⟩ = some (.string ⟨#[]⟩) := hM6.b1.cell 1
        have hb9 := ((hM6.b1.set_ 0 (.int .u8 0)).set_ 1 (.string ⟨#[]⟩)).alloc (.cells #[.int .u8 (da.kind.toNat : Int), .string (ba da.name), .string (ba da.portal), .string (ba da.sql), .slice A1 (strs da.keys).length p1, .slice A2 (strs da.vals).length p2, .slice A3 (strs da.args).length p3, .slice A4 (bools da.null).length p4, .slice A5 (ints da.formats).length p5, .int .i64 da.most, .int .u8 (da.what.toNat : Int), .bool da.cancel, .int .i64 da.pid, .int .i64 da.secret] 29)
        have hB9 := ((hM6.bel.setCell (p := ⟨w.heap.size + 1, 0, none⟩) (by simp) (.int .u8 0)).setCell (p := ⟨w.heap.size + 1, 1, none⟩) (by simp) (.string ⟨#[]⟩)).alloc (by simp [World.setCell]; omega) (.cells #[.int .u8 (da.kind.toNat : Int), .string (ba da.name), .string (ba da.portal), .string (ba da.sql), .slice A1 (strs da.keys).length p1, .slice A2 (strs da.vals).length p2, .slice A3 (strs da.args).length p3, .slice A4 (bools da.null).length p4, .slice A5 (ints da.formats).length p5, .int .i64 da.most, .int .u8 (da.what.toNat : Int), .bool da.cancel, .int .i64 da.pid, .int .i64 da.secret] 29)
        go_wp2
        refine bodyPost_ret (v := .tuple #[.agg #[.int .u8 0, .string ⟨#[]⟩], .int .i64 4]) (enc_out _ _ _ _ _ (by rfl) (by rfl) hb9 rfl) rfl ?_
        rw [HR.out, if_neg (by rintro ⟨_, h, _⟩; exact HN.out h)]
        exact ⟨rfl, hB9⟩
end Go.Proofs.Ytojgeilihoilnaa
namespace Go.Proofs.Ytojgeilihoilnaa
open Go.ChangeShapes Go.WideShapes Go.ChangeAt Go.RowKit
set_option linter.unusedVariables false
attribute [local go_sem ↓] Go.wp_at_zero Go.wp_at_succ

set_option maxHeartbeats 2000000 in
set_option maxRecDepth 100000 in
theorem enc_named (a : Ask) (kv vv av nv fv : Value) (w : World) (i rd : Nat) (hk : Instr.findNow (.int .u8) (u8 a.kind) kEs.toList 0 = some (some (i, .agg #[fnV rd, fnV 39]))) (f : Few a)
    (har : AR (fun i => i < w.heap.size) w (.agg (askV a kv vv av nv fv)) a) (hla : Lens a) (d : Kd) (hbl : (bodyD d a).length ≤ 1000000000)
    (hwr : ∀ (W : Nat) (w' : World), WB w' W [] → AR (fun i => i < w'.heap.size ∧ i ≠ W) w' (.agg (askV a kv vv av nv fv)) a → Calls Try.prog 39 #[.pointer (some ⟨W, 0, none⟩), .agg (askV a kv vv av nv fv)] w' (WsP W (bodyD d a) w')) :
    Calls Try.prog 13 #[.agg (askV a kv vv av nv fv)] w (EncP (encR a d) w) := by
  have hml := fun w1 => @mi2_late w w1 (askV a kv vv av nv fv) (fnV rd) (fnV 39)
  have hme := fun w1 => @mi2_early w w1 (askV a kv vv av nv fv) .nilFunc .nilFunc (fnV rd) (fnV 39)
  have hsh : ∀ W : World, Below w.heap.size w W → Calls Try.prog 22 #[.agg (askV a kv vv av nv fv)] W fun e w' => e = .returned (.bool (shortB a)) ∧ Below W.heap.size W w' := fun W hB => by
    obtain ⟨kv', vv', av', nv', fv', e, o1, o2, o3, o4, o5⟩ := (har.step (P' := fun i => i < W.heap.size) (fun b hb => hB.block b hb) (fun b hb => Nat.lt_of_lt_of_le hb hB.size)).ex
    injection e with e
    rw [e]
    exact short_any a kv' vv' av' nv' fv' W f o1 o2 o3 o5
  have hdec := fun W => dec_any a.kind (ba (bodyD d a)) W (by rw [ba_size]; omega)
  rw [ba_list] at hdec
  have harW : ∀ W : World, Below w.heap.size w W → AR (fun i => i < W.heap.size) W (.agg (askV a kv vv av nv fv)) a := fun W hB => har.step (fun b hb => hB.block b hb) (fun b hb => Nat.lt_of_lt_of_le hb hB.size)
  have harX : ∀ (W : World) (X : Nat), Below w.heap.size w W → w.heap.size ≤ X → AR (fun i => i < W.heap.size ∧ i ≠ X) W (.agg (askV a kv vv av nv fv)) a := fun W X hB hX => har.step (fun b hb => hB.block b hb) (fun b hb => ⟨Nat.lt_of_lt_of_le hb hB.size, by omega⟩)
  unfold u8 at hk
  obtain ⟨DR, hDR⟩ : ∃ DR, decP a.kind (bodyD d a) = DR := ⟨_, rfl⟩
  obtain ⟨da, er⟩ := DR
  rw [hDR] at hdec
  have HR : Hid (encR a d = if shortB a = true ∧ er = 0 ∧ a = da then ((a.kind, bodyD d a), 0) else ((0, []), 4)) := Lib.hid (by unfold encR; rw [hDR])
  have HDN : er ≠ 0 → da = {} := fun h => by
    have := dec_no (k := a.kind) (s := bodyD d a) (by rw [hDR]; exact h)
    rw [hDR] at this
    injection this
  have HLD : Hid (er = 0 → Lens da) := Lib.hid (fun h => by
    have := (dec_inv (k := a.kind) (s := bodyD d a) (by rw [hDR]; exact h)).1
    rw [hDR] at this
    have g := this.1
    exact ⟨by have := g.keys100; simp only at this ⊢; omega, by have := g.keys100; have := g.vals; simp only at *; omega, by have := g.args100; simp only at this ⊢; omega, by have := g.args100; have := g.null; simp only at *; omega, by have := g.fmts100; simp only at this ⊢; omega⟩)
  clear HDN hDR
  obtain ⟨B, hB0⟩ : ∃ B, bodyD d a = B := ⟨_, rfl⟩
  rw [hB0] at hwr hdec HR hbl
  obtain ⟨sb, hsb⟩ : ∃ sb, shortB a = sb := ⟨_, rfl⟩
  rw [hsb] at hsh HR
  clear hsb hB0
  rw [box_cut] at hml hme hwr hsh harW harX ⊢
  clear har
  go_enter Try.func13, Try.ntmps13
  go_upto_region 1 with fail
  go_cut [4, 5] (fun s4 s5 wx => ∃ X, s4 = .pointer (some ⟨X, 0, none⟩) ∧ s5 = .bool true ∧ Mi2 w #[.int .u8 (a.kind.toNat : Int), .string (ba a.name), .string (ba a.portal), .string (ba a.sql), kv, vv, av, nv, fv, .int .i64 a.most, .int .u8 (a.what.toNat : Int), .bool a.cancel, .int .i64 a.pid, .int .i64 a.secret] X (fnV rd) (fnV 39) wx)
  case first =>
    go_region_held3 (fun w' => w'.cell? ⟨w.heap.size, 0, none⟩ = some (.int .u8 (a.kind.toNat : Int))) (go_keep) ((go_at_call 17; refine (kinds_kp _).mono ?_; rintro e w1 ⟨b, rfl, hb, hB⟩; have hl := look_yes w1 b _ _ hb _ _ _ hk; have hl2 := look_yes (w1.alloc (.cells #[.nilFunc, .nilFunc] 42)) b _ _ ((Below.heap_alloc w1 _ b (Array.getElem?_eq_some_iff.1 hb).1).trans hb) _ _ _ hk; have c0 : w1.cell? ⟨w.heap.size, 0, none⟩ = some (.int .u8 (a.kind.toNat : Int)) := (by rw [(bcell hB).1 _ _ (by simp; omega)]; simp [go_sem]); have n1 : w1.heap.size ≠ w.heap.size := (by have := hB.size; simp at this; omega); have n2 : w.heap.size ≠ w1.heap.size := n1.symm; have n3 : w.heap.size + 2 ≠ w.heap.size := (by omega); obtain ⟨hcc, hff⟩ := bcell hB))
    all_goals
      clear hcc hff hl hl2
      go_wp2_with fail
      go_meet
      first
        | exact ⟨w1.heap.size, rfl, rfl, hml _ hB⟩
        | exact ⟨w.heap.size + 2, rfl, rfl, hme _ hB⟩
  case rest =>
    obtain ⟨X, rfl, rfl, hM⟩ := hcut
    clear hml hme hk
    obtain ⟨c0, c1, c2, c3, c4, c5, c6, c7, c8, c9, c10, c11, c12, c13⟩ := hM.b0.all14
    cases sb
    · clear hdec hwr harW harX HLD
      go_wp2_with fail
      refine (hsh _ hM.bel).mono ?_; rintro e w2 ⟨rfl, hb2⟩
      have hM2 := hM.below hb2
      clear hsh c0 c1 c2 c3 c4 c5 c6 c7 c8 c9 c10 c11 c12 c13 hb2 hM
      have f0 := hM2.b1.frozen 0
      have f1 := hM2.b1.frozen 1
      have z0 := hM2.b1.cell 0
      have z1 := hM2.b1.cell 1
      try simp only [List.getElem?_toArray, List.getElem?_cons_zero, List.getElem?_cons_succ] at z0 z1
      have hb9 := (hM2.b1.set_ 0 (.int .u8 0)).set_ 1 (.string ⟨#[]⟩)
      have hB9 := (hM2.bel.setCell (p := ⟨w.heap.size + 1, 0, none⟩) (by simp) (.int .u8 0)).setCell (p := ⟨w.heap.size + 1, 1, none⟩) (by simp) (.string ⟨#[]⟩)
      go_wp2
      refine bodyPost_ret (v := .tuple #[.agg #[.int .u8 0, .string ⟨#[]⟩], .int .i64 4]) (enc_out _ _ _ _ _ (by rfl) (by rfl) hb9 rfl) rfl ?_
      rw [HR.out, if_neg (by rintro ⟨h, _⟩; cases h)]
      exact ⟨rfl, hB9⟩
    · go_wp2_with fail
      refine (hsh _ hM.bel).mono ?_; rintro e w2 ⟨rfl, hb2⟩
      have hM2 := hM.below hb2
      clear hsh c0 c1 c2 c3 c4 c5 c6 c7 c8 c9 c10 c11 c12 c13 hb2 hM
      obtain ⟨c0, c1, c2, c3, c4, c5, c6, c7, c8, c9, c10, c11, c12, c13⟩ := hM2.b0.all14
      have lX1 : w2.cell? ⟨X, 1, none⟩ = some (fnV 39) := hM2.bX.cell 1
      have l0 := hM2.b0.lt
      have l1 := hM2.b1.lt
      have lX := hM2.bX.lt
      go_wp2_with fail
      have hM3 := hM2.below ((Below.refl w2.heap.size w2).alloc (Nat.le_refl _) (.cells #[.string ⟨#[]⟩] 54))
      refine (hwr w2.heap.size _ (Blk.new w2 54 #[.string ⟨#[]⟩]) (harX _ _ hM3.bel (by omega))).mono ?_; rintro e w4 ⟨rfl, hwb, hk4⟩
      have hM4 := hM3.kept hk4 (by simp; omega) (by simp; omega) (by simp; omega) (by intro i hi; rw [List.mem_singleton.1 hi]; omega)
      have d0 : w4.cell? ⟨w.heap.size, 0, none⟩ = some (.int .u8 (a.kind.toNat : Int)) := hM4.b0.cell 0
      have d1 : w4.cell? ⟨w2.heap.size, 0, none⟩ = some (.string (ba B)) := Blk.cell hwb 0
      have lw : w2.heap.size < w4.heap.size := Blk.lt hwb
      clear hwr harX hM2 hM3 c0 c1 c2 c3 c4 c5 c6 c7 c8 c9 c10 c11 c12 c13 lX1 hwb hk4
      go_wp2_with fail
      have hMg := Blk.new w4 23 #[.int .u8 (a.kind.toNat : Int), .string (ba B)]
      have hM5 := hM4.below ((Below.refl w4.heap.size w4).alloc (Nat.le_refl _) (.cells #[.int .u8 (a.kind.toNat : Int), .string (ba B)] 23))
      refine (hdec _).mono ?_; rintro e w5 ⟨v, rfl, hv, hb5⟩
      have hM6 := hM5.below hb5
      have hMh := hMg.below hb5 hMg.lt
      obtain ⟨kv', vv', av', nv', fv', rfl, o1, o2, o3, o4, o5⟩ := hv.ex
      obtain ⟨A1, p1, rfl, _, _⟩ := o1.form
      obtain ⟨A2, p2, rfl, _, _⟩ := o2.form
      obtain ⟨A3, p3, rfl, _, _⟩ := o3.form
      obtain ⟨A4, p4, rfl, _, _⟩ := o4.form
      obtain ⟨A5, p5, rfl, _, _⟩ := o5.form
      rw [box_cut da]
      clear hdec d0 d1 hM4 hM5 hMg hb5
      have l4 : w4.heap.size < w5.heap.size := hMh.lt
      have l0 := hM6.b0.lt
      have l1 := hM6.b1.lt
      have hBB := (Below.refl w5.heap.size w5).alloc (Nat.le_refl _) (.cells (askV da (.slice A1 (strs da.keys).length p1) (.slice A2 (strs da.vals).length p2) (.slice A3 (strs da.args).length p3) (.slice A4 (bools da.null).length p4) (.slice A5 (ints da.formats).length p5)) 29)
      have hM7 := hM6.below hBB
      have hMi := hMh.below hBB hMh.lt
      have hv7 : AR (fun i => i < (w5.alloc (.cells (askV da (.slice A1 (strs da.keys).length p1) (.slice A2 (strs da.vals).length p2) (.slice A3 (strs da.args).length p3) (.slice A4 (bools da.null).length p4) (.slice A5 (ints da.formats).length p5)) 29)).heap.size) (w5.alloc (.cells (askV da (.slice A1 (strs da.keys).length p1) (.slice A2 (strs da.vals).length p2) (.slice A3 (strs da.args).length p3) (.slice A4 (bools da.null).length p4) (.slice A5 (ints da.formats).length p5)) 29)) (.agg (askV da (.slice A1 (strs da.keys).length p1) (.slice A2 (strs da.vals).length p2) (.slice A3 (strs da.args).length p3) (.slice A4 (bools da.null).length p4) (.slice A5 (ints da.formats).length p5))) da :=
        AR.step ⟨(.slice A1 (strs da.keys).length p1), (.slice A2 (strs da.vals).length p2), (.slice A3 (strs da.args).length p3), (.slice A4 (bools da.null).length p4), (.slice A5 (ints da.formats).length p5), rfl, o1, o2, o3, o4, o5⟩ (fun b hb => hBB.block b hb.2) (fun b hb => by have := hb.2; simp; omega)
      have ha7 := harW _ hM7.bel
      clear o1 o2 o3 o4 o5 hv harW hBB
      rw [box_cut da] at hM7 hMi hv7 ha7
      by_cases he : er = 0
      · subst he
        obtain ⟨c0, c1, c2, c3, c4, c5, c6, c7, c8, c9, c10, c11, c12, c13⟩ := hM6.b0.all14
        have hlda := HLD.out rfl
        clear HLD
        cases heq : decide (a = da)
        all_goals
          go_wp2_with fail
          refine (same_any _ a da _ _ ha7 hv7 hla hlda).mono ?_; rintro e w7 ⟨rfl, hb7⟩
          rw [heq]
          have hM8 := hM7.below hb7
          have hMj := hMi.below hb7 hMi.lt
          clear c0 c1 c2 c3 c4 c5 c6 c7 c8 c9 c10 c11 c12 c13 hM6 hM7 hMh hMi ha7 hv7 hb7 hlda
        · have HN := Lib.hid (of_decide_eq_false heq)
          clear heq
          have f0 := hM8.b1.frozen 0
          have f1 := hM8.b1.frozen 1
          have z0 := hM8.b1.cell 0
          have z1 := hM8.b1.cell 1
          try simp only [List.getElem?_toArray, List.getElem?_cons_zero, List.getElem?_cons_succ] at z0 z1
          have hb9 := (hM8.b1.set_ 0 (.int .u8 0)).set_ 1 (.string ⟨#[]⟩)
          have hB9 := (hM8.bel.setCell (p := ⟨w.heap.size + 1, 0, none⟩) (by simp) (.int .u8 0)).setCell (p := ⟨w.heap.size + 1, 1, none⟩) (by simp) (.string ⟨#[]⟩)
          go_wp2
          refine bodyPost_ret (v := .tuple #[.agg #[.int .u8 0, .string ⟨#[]⟩], .int .i64 4]) (enc_out _ _ _ _ _ (by rfl) (by rfl) hb9 rfl) rfl ?_
          rw [HR.out, if_neg (by rintro ⟨_, _, h⟩; exact HN.out h)]
          exact ⟨rfl, hB9⟩
        · have HN := Lib.hid (of_decide_eq_true heq)
          clear heq
          have y0 : w7.cell? ⟨w4.heap.size, 0, none⟩ = some (.int .u8 (a.kind.toNat : Int)) := hMj.cell 0
          have y1 : w7.cell? ⟨w4.heap.size, 1, none⟩ = some (.string (ba B)) := hMj.cell 1
          have f0 := hM8.b1.frozen 0
          have f1 := hM8.b1.frozen 1
          have z0 := hM8.b1.cell 0
          have z1 := hM8.b1.cell 1
          try simp only [List.getElem?_toArray, List.getElem?_cons_zero, List.getElem?_cons_succ] at z0 z1
          have hb9 := (hM8.b1.set_ 0 (.int .u8 (a.kind.toNat : Int))).set_ 1 (.string (ba B))
          have hB9 := (hM8.bel.setCell (p := ⟨w.heap.size + 1, 0, none⟩) (by simp) (.int .u8 (a.kind.toNat : Int))).setCell (p := ⟨w.heap.size + 1, 1, none⟩) (by simp) (.string (ba B))
          go_wp2
          refine bodyPost_ret (v := .tuple #[.agg #[.int .u8 (a.kind.toNat : Int), .string (ba B)], .int .i64 0]) (enc_out _ _ _ _ _ (by rfl) (by rfl) hb9 rfl) rfl ?_
          rw [HR.out, if_pos (by first | exact ⟨rfl, rfl, HN.out⟩ | exact ⟨trivial, trivial, HN.out⟩ | exact ⟨rfl, trivial, HN.out⟩ | exact ⟨trivial, rfl, HN.out⟩)]
          exact ⟨rfl, hB9⟩
      · have hbe : (er != 0) = true := by simpa using he
        have HN := Lib.hid he
        clear he HLD ha7 hv7 hla hMi hMh
        have f0 := hM6.b1.frozen 0
        have f1 := hM6.b1.frozen 1
        have z0 : w5.cell? ⟨w.heap.size + 1, 0, none⟩ = some (.int .u8 0) := hM6.b1.cell 0
        have z1 : w5.cell? ⟨w.heap.size + 1, 1, none⟩ = some (.string ⟨#[]⟩) := hM6.b1.cell 1
        have hb9 := ((hM6.b1.set_ 0 (.int .u8 0)).set_ 1 (.string ⟨#[]⟩)).alloc (.cells #[.int .u8 (da.kind.toNat : Int), .string (ba da.name), .string (ba da.portal), .string (ba da.sql), .slice A1 (strs da.keys).length p1, .slice A2 (strs da.vals).length p2, .slice A3 (strs da.args).length p3, .slice A4 (bools da.null).length p4, .slice A5 (ints da.formats).length p5, .int .i64 da.most, .int .u8 (da.what.toNat : Int), .bool da.cancel, .int .i64 da.pid, .int .i64 da.secret] 29)
        have hB9 := ((hM6.bel.setCell (p := ⟨w.heap.size + 1, 0, none⟩) (by simp) (.int .u8 0)).setCell (p := ⟨w.heap.size + 1, 1, none⟩) (by simp) (.string ⟨#[]⟩)).alloc (by simp [World.setCell]; omega) (.cells #[.int .u8 (da.kind.toNat : Int), .string (ba da.name), .string (ba da.portal), .string (ba da.sql), .slice A1 (strs da.keys).length p1, .slice A2 (strs da.vals).length p2, .slice A3 (strs da.args).length p3, .slice A4 (bools da.null).length p4, .slice A5 (ints da.formats).length p5, .int .i64 da.most, .int .u8 (da.what.toNat : Int), .bool da.cancel, .int .i64 da.pid, .int .i64 da.secret] 29)
        go_wp2
        refine bodyPost_ret (v := .tuple #[.agg #[.int .u8 0, .string ⟨#[]⟩], .int .i64 4]) (enc_out _ _ _ _ _ (by rfl) (by rfl) hb9 rfl) rfl ?_
        rw [HR.out, if_neg (by rintro ⟨_, h, _⟩; exact HN.out h)]
        exact ⟨rfl, hB9⟩
end Go.Proofs.Ytojgeilihoilnaa
namespace Go.Proofs.Ytojgeilihoilnaa
open Go.ChangeShapes Go.WideShapes Go.ChangeAt Go.RowKit
set_option linter.unusedVariables false
attribute [local go_sem ↓] Go.wp_at_zero Go.wp_at_succ

set_option maxHeartbeats 2000000 in
set_option maxRecDepth 100000 in
theorem enc_execute (a : Ask) (kv vv av nv fv : Value) (w : World) (i rd : Nat) (hk : Instr.findNow (.int .u8) (u8 a.kind) kEs.toList 0 = some (some (i, .agg #[fnV rd, fnV 41]))) (f : Few a)
    (har : AR (fun i => i < w.heap.size) w (.agg (askV a kv vv av nv fv)) a) (hla : Lens a) (d : Kd) (hbl : (bodyD d a).length ≤ 1000000000)
    (hwr : ∀ (W : Nat) (w' : World), WB w' W [] → AR (fun i => i < w'.heap.size ∧ i ≠ W) w' (.agg (askV a kv vv av nv fv)) a → Calls Try.prog 41 #[.pointer (some ⟨W, 0, none⟩), .agg (askV a kv vv av nv fv)] w' (WsP W (bodyD d a) w')) :
    Calls Try.prog 13 #[.agg (askV a kv vv av nv fv)] w (EncP (encR a d) w) := by
  have hml := fun w1 => @mi2_late w w1 (askV a kv vv av nv fv) (fnV rd) (fnV 41)
  have hme := fun w1 => @mi2_early w w1 (askV a kv vv av nv fv) .nilFunc .nilFunc (fnV rd) (fnV 41)
  have hsh : ∀ W : World, Below w.heap.size w W → Calls Try.prog 22 #[.agg (askV a kv vv av nv fv)] W fun e w' => e = .returned (.bool (shortB a)) ∧ Below W.heap.size W w' := fun W hB => by
    obtain ⟨kv', vv', av', nv', fv', e, o1, o2, o3, o4, o5⟩ := (har.step (P' := fun i => i < W.heap.size) (fun b hb => hB.block b hb) (fun b hb => Nat.lt_of_lt_of_le hb hB.size)).ex
    injection e with e
    rw [e]
    exact short_any a kv' vv' av' nv' fv' W f o1 o2 o3 o5
  have hdec := fun W => dec_any a.kind (ba (bodyD d a)) W (by rw [ba_size]; omega)
  rw [ba_list] at hdec
  have harW : ∀ W : World, Below w.heap.size w W → AR (fun i => i < W.heap.size) W (.agg (askV a kv vv av nv fv)) a := fun W hB => har.step (fun b hb => hB.block b hb) (fun b hb => Nat.lt_of_lt_of_le hb hB.size)
  have harX : ∀ (W : World) (X : Nat), Below w.heap.size w W → w.heap.size ≤ X → AR (fun i => i < W.heap.size ∧ i ≠ X) W (.agg (askV a kv vv av nv fv)) a := fun W X hB hX => har.step (fun b hb => hB.block b hb) (fun b hb => ⟨Nat.lt_of_lt_of_le hb hB.size, by omega⟩)
  unfold u8 at hk
  obtain ⟨DR, hDR⟩ : ∃ DR, decP a.kind (bodyD d a) = DR := ⟨_, rfl⟩
  obtain ⟨da, er⟩ := DR
  rw [hDR] at hdec
  have HR : Hid (encR a d = if shortB a = true ∧ er = 0 ∧ a = da then ((a.kind, bodyD d a), 0) else ((0, []), 4)) := Lib.hid (by unfold encR; rw [hDR])
  have HDN : er ≠ 0 → da = {} := fun h => by
    have := dec_no (k := a.kind) (s := bodyD d a) (by rw [hDR]; exact h)
    rw [hDR] at this
    injection this
  have HLD : Hid (er = 0 → Lens da) := Lib.hid (fun h => by
    have := (dec_inv (k := a.kind) (s := bodyD d a) (by rw [hDR]; exact h)).1
    rw [hDR] at this
    have g := this.1
    exact ⟨by have := g.keys100; simp only at this ⊢; omega, by have := g.keys100; have := g.vals; simp only at *; omega, by have := g.args100; simp only at this ⊢; omega, by have := g.args100; have := g.null; simp only at *; omega, by have := g.fmts100; simp only at this ⊢; omega⟩)
  clear HDN hDR
  obtain ⟨B, hB0⟩ : ∃ B, bodyD d a = B := ⟨_, rfl⟩
  rw [hB0] at hwr hdec HR hbl
  obtain ⟨sb, hsb⟩ : ∃ sb, shortB a = sb := ⟨_, rfl⟩
  rw [hsb] at hsh HR
  clear hsb hB0
  rw [box_cut] at hml hme hwr hsh harW harX ⊢
  clear har
  go_enter Try.func13, Try.ntmps13
  go_upto_region 1 with fail
  go_cut [4, 5] (fun s4 s5 wx => ∃ X, s4 = .pointer (some ⟨X, 0, none⟩) ∧ s5 = .bool true ∧ Mi2 w #[.int .u8 (a.kind.toNat : Int), .string (ba a.name), .string (ba a.portal), .string (ba a.sql), kv, vv, av, nv, fv, .int .i64 a.most, .int .u8 (a.what.toNat : Int), .bool a.cancel, .int .i64 a.pid, .int .i64 a.secret] X (fnV rd) (fnV 41) wx)
  case first =>
    go_region_held3 (fun w' => w'.cell? ⟨w.heap.size, 0, none⟩ = some (.int .u8 (a.kind.toNat : Int))) (go_keep) ((go_at_call 17; refine (kinds_kp _).mono ?_; rintro e w1 ⟨b, rfl, hb, hB⟩; have hl := look_yes w1 b _ _ hb _ _ _ hk; have hl2 := look_yes (w1.alloc (.cells #[.nilFunc, .nilFunc] 42)) b _ _ ((Below.heap_alloc w1 _ b (Array.getElem?_eq_some_iff.1 hb).1).trans hb) _ _ _ hk; have c0 : w1.cell? ⟨w.heap.size, 0, none⟩ = some (.int .u8 (a.kind.toNat : Int)) := (by rw [(bcell hB).1 _ _ (by simp; omega)]; simp [go_sem]); have n1 : w1.heap.size ≠ w.heap.size := (by have := hB.size; simp at this; omega); have n2 : w.heap.size ≠ w1.heap.size := n1.symm; have n3 : w.heap.size + 2 ≠ w.heap.size := (by omega); obtain ⟨hcc, hff⟩ := bcell hB))
    all_goals
      clear hcc hff hl hl2
      go_wp2_with fail
      go_meet
      first
        | exact ⟨w1.heap.size, rfl, rfl, hml _ hB⟩
        | exact ⟨w.heap.size + 2, rfl, rfl, hme _ hB⟩
  case rest =>
    obtain ⟨X, rfl, rfl, hM⟩ := hcut
    clear hml hme hk
    obtain ⟨c0, c1, c2, c3, c4, c5, c6, c7, c8, c9, c10, c11, c12, c13⟩ := hM.b0.all14
    cases sb
    · clear hdec hwr harW harX HLD
      go_wp2_with fail
      refine (hsh _ hM.bel).mono ?_; rintro e w2 ⟨rfl, hb2⟩
      have hM2 := hM.below hb2
      clear hsh c0 c1 c2 c3 c4 c5 c6 c7 c8 c9 c10 c11 c12 c13 hb2 hM
      have f0 := hM2.b1.frozen 0
      have f1 := hM2.b1.frozen 1
      have z0 := hM2.b1.cell 0
      have z1 := hM2.b1.cell 1
      try simp only [List.getElem?_toArray, List.getElem?_cons_zero, List.getElem?_cons_succ] at z0 z1
      have hb9 := (hM2.b1.set_ 0 (.int .u8 0)).set_ 1 (.string ⟨#[]⟩)
      have hB9 := (hM2.bel.setCell (p := ⟨w.heap.size + 1, 0, none⟩) (by simp) (.int .u8 0)).setCell (p := ⟨w.heap.size + 1, 1, none⟩) (by simp) (.string ⟨#[]⟩)
      go_wp2
      refine bodyPost_ret (v := .tuple #[.agg #[.int .u8 0, .string ⟨#[]⟩], .int .i64 4]) (enc_out _ _ _ _ _ (by rfl) (by rfl) hb9 rfl) rfl ?_
      rw [HR.out, if_neg (by rintro ⟨h, _⟩; cases h)]
      exact ⟨rfl, hB9⟩
    · go_wp2_with fail
      refine (hsh _ hM.bel).mono ?_; rintro e w2 ⟨rfl, hb2⟩
      have hM2 := hM.below hb2
      clear hsh c0 c1 c2 c3 c4 c5 c6 c7 c8 c9 c10 c11 c12 c13 hb2 hM
      obtain ⟨c0, c1, c2, c3, c4, c5, c6, c7, c8, c9, c10, c11, c12, c13⟩ := hM2.b0.all14
      have lX1 : w2.cell? ⟨X, 1, none⟩ = some (fnV 41) := hM2.bX.cell 1
      have l0 := hM2.b0.lt
      have l1 := hM2.b1.lt
      have lX := hM2.bX.lt
      go_wp2_with fail
      have hM3 := hM2.below ((Below.refl w2.heap.size w2).alloc (Nat.le_refl _) (.cells #[.string ⟨#[]⟩] 54))
      refine (hwr w2.heap.size _ (Blk.new w2 54 #[.string ⟨#[]⟩]) (harX _ _ hM3.bel (by omega))).mono ?_; rintro e w4 ⟨rfl, hwb, hk4⟩
      have hM4 := hM3.kept hk4 (by simp; omega) (by simp; omega) (by simp; omega) (by intro i hi; rw [List.mem_singleton.1 hi]; omega)
      have d0 : w4.cell? ⟨w.heap.size, 0, none⟩ = some (.int .u8 (a.kind.toNat : Int)) := hM4.b0.cell 0
      have d1 : w4.cell? ⟨w2.heap.size, 0, none⟩ = some (.string (ba B)) := Blk.cell hwb 0
      have lw : w2.heap.size < w4.heap.size := Blk.lt hwb
      clear hwr harX hM2 hM3 c0 c1 c2 c3 c4 c5 c6 c7 c8 c9 c10 c11 c12 c13 lX1 hwb hk4
      go_wp2_with fail
      have hMg := Blk.new w4 23 #[.int .u8 (a.kind.toNat : Int), .string (ba B)]
      have hM5 := hM4.below ((Below.refl w4.heap.size w4).alloc (Nat.le_refl _) (.cells #[.int .u8 (a.kind.toNat : Int), .string (ba B)] 23))
      refine (hdec _).mono ?_; rintro e w5 ⟨v, rfl, hv, hb5⟩
      have hM6 := hM5.below hb5
      have hMh := hMg.below hb5 hMg.lt
      obtain ⟨kv', vv', av', nv', fv', rfl, o1, o2, o3, o4, o5⟩ := hv.ex
      obtain ⟨A1, p1, rfl, _, _⟩ := o1.form
      obtain ⟨A2, p2, rfl, _, _⟩ := o2.form
      obtain ⟨A3, p3, rfl, _, _⟩ := o3.form
      obtain ⟨A4, p4, rfl, _, _⟩ := o4.form
      obtain ⟨A5, p5, rfl, _, _⟩ := o5.form
      rw [box_cut da]
      clear hdec d0 d1 hM4 hM5 hMg hb5
      have l4 : w4.heap.size < w5.heap.size := hMh.lt
      have l0 := hM6.b0.lt
      have l1 := hM6.b1.lt
      have hBB := (Below.refl w5.heap.size w5).alloc (Nat.le_refl _) (.cells (askV da (.slice A1 (strs da.keys).length p1) (.slice A2 (strs da.vals).length p2) (.slice A3 (strs da.args).length p3) (.slice A4 (bools da.null).length p4) (.slice A5 (ints da.formats).length p5)) 29)
      have hM7 := hM6.below hBB
      have hMi := hMh.below hBB hMh.lt
      have hv7 : AR (fun i => i < (w5.alloc (.cells (askV da (.slice A1 (strs da.keys).length p1) (.slice A2 (strs da.vals).length p2) (.slice A3 (strs da.args).length p3) (.slice A4 (bools da.null).length p4) (.slice A5 (ints da.formats).length p5)) 29)).heap.size) (w5.alloc (.cells (askV da (.slice A1 (strs da.keys).length p1) (.slice A2 (strs da.vals).length p2) (.slice A3 (strs da.args).length p3) (.slice A4 (bools da.null).length p4) (.slice A5 (ints da.formats).length p5)) 29)) (.agg (askV da (.slice A1 (strs da.keys).length p1) (.slice A2 (strs da.vals).length p2) (.slice A3 (strs da.args).length p3) (.slice A4 (bools da.null).length p4) (.slice A5 (ints da.formats).length p5))) da :=
        AR.step ⟨(.slice A1 (strs da.keys).length p1), (.slice A2 (strs da.vals).length p2), (.slice A3 (strs da.args).length p3), (.slice A4 (bools da.null).length p4), (.slice A5 (ints da.formats).length p5), rfl, o1, o2, o3, o4, o5⟩ (fun b hb => hBB.block b hb.2) (fun b hb => by have := hb.2; simp; omega)
      have ha7 := harW _ hM7.bel
      clear o1 o2 o3 o4 o5 hv harW hBB
      rw [box_cut da] at hM7 hMi hv7 ha7
      by_cases he : er = 0
      · subst he
        obtain ⟨c0, c1, c2, c3, c4, c5, c6, c7, c8, c9, c10, c11, c12, c13⟩ := hM6.b0.all14
        have hlda := HLD.out rfl
        clear HLD
        cases heq : decide (a = da)
        all_goals
          go_wp2_with fail
          refine (same_any _ a da _ _ ha7 hv7 hla hlda).mono ?_; rintro e w7 ⟨rfl, hb7⟩
          rw [heq]
          have hM8 := hM7.below hb7
          have hMj := hMi.below hb7 hMi.lt
          clear c0 c1 c2 c3 c4 c5 c6 c7 c8 c9 c10 c11 c12 c13 hM6 hM7 hMh hMi ha7 hv7 hb7 hlda
        · have HN := Lib.hid (of_decide_eq_false heq)
          clear heq
          have f0 := hM8.b1.frozen 0
          have f1 := hM8.b1.frozen 1
          have z0 := hM8.b1.cell 0
          have z1 := hM8.b1.cell 1
          try simp only [List.getElem?_toArray, List.getElem?_cons_zero, List.getElem?_cons_succ] at z0 z1
          have hb9 := (hM8.b1.set_ 0 (.int .u8 0)).set_ 1 (.string ⟨#[]⟩)
          have hB9 := (hM8.bel.setCell (p := ⟨w.heap.size + 1, 0, none⟩) (by simp) (.int .u8 0)).setCell (p := ⟨w.heap.size + 1, 1, none⟩) (by simp) (.string ⟨#[]⟩)
          go_wp2
          refine bodyPost_ret (v := .tuple #[.agg #[.int .u8 0, .string ⟨#[]⟩], .int .i64 4]) (enc_out _ _ _ _ _ (by rfl) (by rfl) hb9 rfl) rfl ?_
          rw [HR.out, if_neg (by rintro ⟨_, _, h⟩; exact HN.out h)]
          exact ⟨rfl, hB9⟩
        · have HN := Lib.hid (of_decide_eq_true heq)
          clear heq
          have y0 : w7.cell? ⟨w4.heap.size, 0, none⟩ = some (.int .u8 (a.kind.toNat : Int)) := hMj.cell 0
          have y1 : w7.cell? ⟨w4.heap.size, 1, none⟩ = some (.string (ba B)) := hMj.cell 1
          have f0 := hM8.b1.frozen 0
          have f1 := hM8.b1.frozen 1
          have z0 := hM8.b1.cell 0
          have z1 := hM8.b1.cell 1
          try simp only [List.getElem?_toArray, List.getElem?_cons_zero, List.getElem?_cons_succ] at z0 z1
          have hb9 := (hM8.b1.set_ 0 (.int .u8 (a.kind.toNat : Int))).set_ 1 (.string (ba B))
          have hB9 := (hM8.bel.setCell (p := ⟨w.heap.size + 1, 0, none⟩) (by simp) (.int .u8 (a.kind.toNat : Int))).setCell (p := ⟨w.heap.size + 1, 1, none⟩) (by simp) (.string (ba B))
          go_wp2
          refine bodyPost_ret (v := .tuple #[.agg #[.int .u8 (a.kind.toNat : Int), .string (ba B)], .int .i64 0]) (enc_out _ _ _ _ _ (by rfl) (by rfl) hb9 rfl) rfl ?_
          rw [HR.out, if_pos (by first | exact ⟨rfl, rfl, HN.out⟩ | exact ⟨trivial, trivial, HN.out⟩ | exact ⟨rfl, trivial, HN.out⟩ | exact ⟨trivial, rfl, HN.out⟩)]
          exact ⟨rfl, hB9⟩
      · have hbe : (er != 0) = true := by simpa using he
        have HN := Lib.hid he
        clear he HLD ha7 hv7 hla hMi hMh
        have f0 := hM6.b1.frozen 0
        have f1 := hM6.b1.frozen 1
        have z0 : w5.cell? ⟨w.heap.size + 1, 0, none⟩ = some (.int .u8 0) := hM6.b1.cell 0
        have z1 : w5.cell? ⟨w.heap.size + 1, 1, none⟩ = some (.string ⟨#[]⟩) := hM6.b1.cell 1
        have hb9 := ((hM6.b1.set_ 0 (.int .u8 0)).set_ 1 (.string ⟨#[]⟩)).alloc (.cells #[.int .u8 (da.kind.toNat : Int), .string (ba da.name), .string (ba da.portal), .string (ba da.sql), .slice A1 (strs da.keys).length p1, .slice A2 (strs da.vals).length p2, .slice A3 (strs da.args).length p3, .slice A4 (bools da.null).length p4, .slice A5 (ints da.formats).length p5, .int .i64 da.most, .int .u8 (da.what.toNat : Int), .bool da.cancel, .int .i64 da.pid, .int .i64 da.secret] 29)
        have hB9 := ((hM6.bel.setCell (p := ⟨w.heap.size + 1, 0, none⟩) (by simp) (.int .u8 0)).setCell (p := ⟨w.heap.size + 1, 1, none⟩) (by simp) (.string ⟨#[]⟩)).alloc (by simp [World.setCell]; omega) (.cells #[.int .u8 (da.kind.toNat : Int), .string (ba da.name), .string (ba da.portal), .string (ba da.sql), .slice A1 (strs da.keys).length p1, .slice A2 (strs da.vals).length p2, .slice A3 (strs da.args).length p3, .slice A4 (bools da.null).length p4, .slice A5 (ints da.formats).length p5, .int .i64 da.most, .int .u8 (da.what.toNat : Int), .bool da.cancel, .int .i64 da.pid, .int .i64 da.secret] 29)
        go_wp2
        refine bodyPost_ret (v := .tuple #[.agg #[.int .u8 0, .string ⟨#[]⟩], .int .i64 4]) (enc_out _ _ _ _ _ (by rfl) (by rfl) hb9 rfl) rfl ?_
        rw [HR.out, if_neg (by rintro ⟨_, h, _⟩; exact HN.out h)]
        exact ⟨rfl, hB9⟩
end Go.Proofs.Ytojgeilihoilnaa
