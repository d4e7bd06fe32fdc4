/- Package prep, its code: given, New, Find, Define. Conditions: sizes; how many calls there were. -/
import Derived.Test.YtkifmhdceobfhaaDoorPpd
namespace Go.Proofs.YtkifmhdceobfhaaDoor.PP
open Go.ChangeShapes Go.WideShapes Go.ChangeAt Go.RowKit Go.Maps Go.ChangeMaps
open Go.Proofs.YtkifmhdceobfhaaDoor.SL
set_option maxRecDepth 100000
set_option linter.unusedVariables false
set_option linter.unusedSimpArgs false

theorem binfo : ∃ j, Tryd.prog.info? 52 = some j := Option.isSome_iff_exists.1 (by kernel_rfl)
theorem eql_same (w : World) (a : Addr) : (binOp .eql 23 (.pointer (some a)) (.pointer (some a))).run Tryd.prog w = .ok (.bool true) w := by
  obtain ⟨j, hj⟩ := binfo
  exact run_eql_ptr_same (P := Tryd.prog) w a Tryd.underlying23 hj
theorem eql_none (w : World) (a : Addr) : (binOp .eql 23 (.pointer none) (.pointer (some a))).run Tryd.prog w = .ok (.bool false) w := by
  have h : ∀ d : Nat, (Op.equalIn (d + 1) 23 (.pointer none) (.pointer (some a))).run Tryd.prog w = .ok false w := fun d => by
    simp [Op.equalIn, run_underlying Tryd.underlying23]
  simp only [binOp]
  simp [Op.equal, Op.maxDepth, h 9999]
/-- what is not there: nil, or a book that New did not give -/
def Nb (w : World) (v : Value) : Prop := v = .pointer none ∨ ∃ b, v = ptr b ∧ w.cell? ⟨b, 0, none⟩ = some (.pointer none)
theorem Nb.below {w w' : World} {v : Value} (h : Nb w v) (hb : Below w.heap.size w w') : Nb w' v := by
  rcases h with h | ⟨b, h1, h2⟩
  · exact .inl h
  · exact .inr ⟨b, h1, (hb.cell (p := ⟨b, 0, none⟩) (World.block_lt_of_cell? _ _ h2)).trans h2⟩
theorem given_yes (w : World) (a : Nat) (h : w.cell? ⟨a, 0, none⟩ = some (ptr a)) : Calls Tryd.prog 27 #[ptr a] w fun e w' => e = .returned (.bool true) ∧ w = w' := by
  have he := fun w => PP.eql_same w ⟨a, 0, none⟩
  go_enter Tryd.func27, Tryd.ntmps27
  go_wp2
  go_ret
  exact ⟨rfl, rfl⟩
theorem given_no {w : World} {v : Value} (h : Nb w v) : Calls Tryd.prog 27 #[v] w fun e w' => e = .returned (.bool false) ∧ w = w' := by
  rcases h with rfl | ⟨b, rfl, h⟩
  · go_enter Tryd.func27, Tryd.ntmps27
    go_wp2
    go_ret
    exact ⟨rfl, rfl⟩
  · have he := fun w => PP.eql_none w ⟨b, 0, none⟩
    go_enter Tryd.func27, Tryd.ntmps27
    go_wp2
    go_ret
    exact ⟨rfl, rfl⟩
theorem zSt (w : World) : (zeroValue 56).run Tryd.prog w = .ok (stV ByteArray.empty) w := zero_of _ _ (by kernel_rfl) w
theorem zIn (w : World) : (zeroValue 3).run Tryd.prog w = .ok (nV 0) w := zero_of _ _ (by kernel_rfl) w
section
variable {B : Nat} {w w' : World} {a N : Nat} {C : Cf} {S : St}
theorem CB.lookC (h : CB B w a N C S) (c : Int) (hI : I9 c) (n : Tx) (hn : n.size ≤ 281474976710656) :
    (Instr.lookup 47 (mpV C.hb) (nV c) false).run Tryd.prog w = .ok (.map (C.F c)) w ∧
    (Instr.lookup 58 (.map (C.F c)) (.string n) true).run Tryd.prog w = .ok (.tuple #[stV ((fnd S.L c n).getD ByteArray.empty), .bool (fnd S.L c n).isSome]) w := by
  refine ⟨h.hc.out Tryd.underlying47 (zo_s w) c hI, ?_⟩
  have := h.hc.look strK Tryd.underlying58 (zSt w) c (keyB n hn)
  rw [gC_at] at this
  rw [Option.isSome_map] at this
  refine this.trans ?_
  cases fnd S.L c n <;> rfl
theorem CB.lookD (h : CB B w a N C S) (c : Int) (hI : I9 c) (k : Int) (hk : I9 k) :
    (Instr.lookup 49 (mpV C.cb) (nV c) false).run Tryd.prog w = .ok (.map (C.G c)) w ∧
    (∃ i : Nat, (Instr.lookup 65 (.map (C.G c)) (nV k) true).run Tryd.prog w = .ok (.tuple #[nV (i : Int), .bool (ixN (nms S.D c) k).isSome]) w) ∧
    (∀ ty, (Builtin.len_ #[65] ty #[.map (C.G c)]).run Tryd.prog w = .ok (nV ((nms S.D c).length : Int)) w) := by
  refine ⟨h.hd.out Tryd.underlying49 (zo_i w) c hI, ⟨(ixN (nms S.D c) k).getD 0, ?_⟩, fun ty => h.hd.len Tryd.underlying65 c ty⟩
  have := h.hd.look iK Tryd.underlying65 (zIn w) c (keyI k hk)
  rw [gD_at] at this
  rw [Option.isSome_map] at this
  refine this.trans ?_
  cases ixN (nms S.D c) k <;> rfl
theorem CB.lookT (h : CB B w a N C S) (t : Tx) (ht : t.size ≤ 281474976710656) :
    (∃ v : Int, (∀ i, ixT S.T t = some i → v = ((i + 1 : Nat) : Int)) ∧ (Instr.lookup 50 (mpV C.tb) (.string t) true).run Tryd.prog w = .ok (.tuple #[nV v, .bool (ixT S.T t).isSome]) w) ∧
    (∀ ty, (Builtin.len_ #[50] ty #[mpV C.tb]).run Tryd.prog w = .ok (nV (S.T.length : Int)) w) := by
  have := h.ht.mv.look strK Tryd.underlying50 (zIn w) (keyB t ht)
  rw [gT_at, Option.isSome_map] at this
  refine ⟨?_, fun ty => h.ht.len Tryd.underlying50 ty⟩
  cases hi : ixT S.T t with
  | none => rw [hi] at this; exact ⟨0, fun i e => (by cases e), this⟩
  | some i => rw [hi] at this; exact ⟨_, fun j e => by injection e with e; rw [e], this⟩
set_option maxHeartbeats 4000000 in
theorem find_any (h : CB B w a N C S) (c : Int) (hI : I9 c) (n : Tx) (hn : n.size ≤ 281474976710656) :
    Calls Tryd.prog 20 #[ptr a, nV c, .string n] w fun e w' => e = .returned (.tuple #[.string ((fnd S.L c n).getD ByteArray.empty), .bool (fnd S.L c n).isSome]) ∧ Below w.heap.size w w' := by
  obtain ⟨c0, c1, _, _⟩ := h.cells
  obtain ⟨hO, hL⟩ := h.lookC c hI n hn
  have hG := given_yes w a c0
  generalize (fnd S.L c n).getD ByteArray.empty = x at *
  generalize (fnd S.L c n).isSome = bo at *
  generalize C.F c = o at *
  obtain ⟨W1, hW1⟩ : ∃ W, w.alloc (.cells #[.string x] 56) = W := ⟨_, rfl⟩
  obtain ⟨q, hq⟩ : ∃ b, w.heap.size = b := ⟨_, rfl⟩
  have HB : Hid (Below w.heap.size w W1) := Lib.hid (by rw [← hW1]; exact (Below.refl _ _).alloc (Nat.le_refl _) _)
  have k1 : Bk W1 q 56 #[.string x] := by rw [← hW1, ← hq]; exact Bk.new _ _ _
  have x0 := k1.cell 0
  simp at x0
  clear h hI hn k1
  go_enter Tryd.func20, Tryd.ntmps20
  go_wp2_with (go_at_call 27; refine hG.mono ?_; rintro e w' ⟨rfl, rfl⟩)
  go_ret2
  exact ⟨rfl, HB.out⟩
set_option maxHeartbeats 4000000 in
theorem define_any (h : CB B w a N C S) (hN : N ≤ 1000000) (c : Int) (hI : I9 c) (n s : Tx) (hn : n.size ≤ 281474976710656) (hs : s.size ≤ 281474976710656) :
    Calls Tryd.prog 9 #[ptr a, nV c, .string n, .string s] w fun e w' => e = .returned (nV (defA c n s S)) ∧ StC B a (N + 1) C (defS c n s S) w w' := by
  obtain ⟨c0, c1, _, _⟩ := h.cells
  obtain ⟨hO, hL⟩ := h.lookC c hI n hn
  have hG := given_yes w a c0
  have HR := Lib.hid ((StC.refl h).mono (Nat.le_succ N))
  have hn0 : n = ByteArray.empty ↔ n.toList.isEmpty = true := by
    have h1 : (n.toList == ByteArray.empty.toList) = decide (n = ByteArray.empty) := tl_dec _ _
    have h2 : ByteArray.empty.toList = [] := by kernel_rfl
    rw [h2] at h1
    rw [show n.toList.isEmpty = (n.toList == []) by cases n.toList <;> rfl, h1, decide_eq_true_eq]
  unfold defA defS
  by_cases hbig : 2000 < s.size
  · rw [if_pos hbig, if_pos hbig]
    have l1 : (2000 : Int) < (s.size : Int) := by omega
    clear hO hL hn0 h hn hs hI hN hbig
    go_enter Tryd.func9, Tryd.ntmps9
    go_wp2_with (go_at_call 27; refine hG.mono ?_; rintro e w' ⟨rfl, rfl⟩)
    go_ret
    exact ⟨rfl, HR.out⟩
  · rw [if_neg hbig, if_neg hbig]
    have l1 : ¬ (2000 : Int) < (s.size : Int) := by omega
    generalize hx : (fnd S.L c n).getD ByteArray.empty = x at *
    obtain ⟨W1, hW1⟩ : ∃ W, w.alloc (.cells #[.string x] 56) = W := ⟨_, rfl⟩
    obtain ⟨q, hq⟩ : ∃ b, w.heap.size = b := ⟨_, rfl⟩
    have hb1 : Below w.heap.size w W1 := by rw [← hW1]; exact (Below.refl _ _).alloc (Nat.le_refl _) _
    have HR1 := Lib.hid (HR.out.post hb1)
    by_cases hc : (fnd S.L c n).isSome = true ∧ n ≠ ByteArray.empty
    · rw [if_pos hc, if_pos hc]
      have e1 : n.toList.isEmpty = false := by
        rw [Bool.eq_false_iff]; exact fun e => hc.2 (hn0.2 e)
      rw [hc.1] at hL
      generalize C.F c = o at *
      clear hn0 h hn hs hI hN hbig hx hb1 hc
      go_enter Tryd.func9, Tryd.ntmps9
      go_wp2_with (go_at_call 27; refine hG.mono ?_; rintro e w' ⟨rfl, rfl⟩)
      go_ret
      exact ⟨rfl, HR1.out⟩
    · rw [if_neg hc, if_neg hc]
      have h1 := h.below hb1
      have HN := Lib.hid (fun W => clone_any n W hn)
      have HS2 := Lib.hid (fun W => clone_any s W hs)
      have X1 : Hid (W1.cell? ⟨a, 1, none⟩ = some (mpV C.hb)) := Lib.hid h1.cells.2.1
      have HP : Hid (∀ W, Below W1.heap.size W1 W → Calls Tryd.prog 28 #[mpV C.hb, nV c, .string n, .agg #[.string s]] W fun e w' => e = .returned (.tuple #[]) ∧ StC B a (N + 1) C { S with L := woE c n S.L ++ [(c, n, s)] } w w') := Lib.hid fun W hb => by
        have hW := h1.below hb
        refine (put_s hW.hc c hI n hn s hN (Nat.le_trans (Nat.le_trans (List.length_filter_le _ _) h.few.1) hN)).mono ?_
        rintro e w' ⟨rfl, F', H, hcg, ho⟩
        refine ⟨rfl, StC.pre (hb1.trans (hb.mono hb1.size)) (hW.clients (Nat.le_succ N) ⟨F', H.congr (fun x => cC_def S.L h.inv.ul c n s x) (fun x kl => gC_def S.L c n s x kl), hcg, ho⟩ (ul_def h.inv.ul c n s) ?_)⟩
        have := wo_len c n S.L
        have := h.few.1
        rw [List.length_append]
        show (woE c n S.L).length + 1 ≤ N + 1
        omega
      have HX : Hid (∀ W, StC B a (N + 1) C { S with L := woE c n S.L ++ [(c, n, s)] } w W → W.cell? ⟨a, 1, none⟩ = some (mpV C.hb)) := Lib.hid fun W hst => by
        obtain ⟨C', _, _, hk, _⟩ := hst
        exact (hk.bk h.bk).cell 1
      generalize { S with L := woE c n S.L ++ [(c, n, s)] } = S2 at *
      have l2 : (fnd S.L c n).isSome = false ∨ ((fnd S.L c n).isSome = true ∧ n.toList.isEmpty = true) := by
        by_cases e : n = ByteArray.empty
        · cases (fnd S.L c n).isSome with
          | false => exact .inl rfl
          | true => exact .inr ⟨rfl, hn0.1 e⟩
        · exact .inl (Bool.eq_false_iff.2 fun e2 => hc ⟨e2, e⟩)
      generalize (fnd S.L c n).isSome = bo at *
      generalize C.F c = o at *
      clear hn0 h hn hs hI hN hbig hx hb1 hc h1 HR HR1
      rcases l2 with rfl | ⟨rfl, e1⟩
      · go_enter Tryd.func9, Tryd.ntmps9
        go_upto_region 8 with (go_at_call 27; refine hG.mono ?_; rintro e w' ⟨rfl, rfl⟩)
        refine wp_region_held_drew (S := fun W => W.cell? ⟨a, 1, none⟩ = some (mpV C.hb)) (by kernel_rfl) ?_ (fun hS => ?_)
        · exact X1.out
        have hb0 : Below W1.heap.size W1 W1.drew := (Below.refl _ _).drew
        obtain ⟨WD, hWD⟩ : ∃ w, W1.drew = w := ⟨_, rfl⟩
        rw [hWD] at hb0 hS ⊢
        clear hWD
        have HBD := Lib.hid hb0
        clear hb0
        refine tkY 0 ?_ rfl hS ?_ ?_
        rotate_left
        · intro wz hz
          have x1 := hz
          go_simp
          all_goals first | with_reducible rfl | omega
        try simp only [Act.put, pu]
        refine tkY 1 ?_ rfl hS ?_ ?_
        rotate_left
        · intro wz hz
          have x1 := hz
          go_simp
          all_goals first | with_reducible rfl | omega
        try simp only [Act.put, pu]
        refine tkY 2 ?_ rfl hS ?_ ?_
        rotate_left
        · intro wz hz
          have x1 := hz
          go_simp
          all_goals first | with_reducible rfl | omega
        try simp only [Act.put, pu]
        refine tkY 3 ?_ rfl hS ?_ ?_
        rotate_left
        · intro wz hz
          have x1 := hz
          go_simp
          all_goals first | with_reducible rfl | omega
        try simp only [Act.put, pu]
        refine tkY 4 ?_ rfl hS ?_ ?_
        rotate_left
        · intro wz hz
          have x1 := hz
          go_simp
          all_goals first | with_reducible rfl | omega
        try simp only [Act.put, pu]
        refine tkY 5 ?_ rfl hS ?_ ?_
        rotate_left
        · intro wz hz
          have x1 := hz
          go_simp
          all_goals first | with_reducible rfl | omega
        try simp only [Act.put, pu]
        refine tkY 7 ?_ rfl hS ?_ ?_
        rotate_left
        · intro wz hz
          have x1 := hz
          go_simp
          all_goals first | with_reducible rfl | omega
        try simp only [Act.put, pu]
        refine wpAnyH_ready (rs := [6]) (by kernel_rfl) (by simp) (AllReadyH.cons rfl (fun K' hK' => ?_) AllReadyH.nil)
        go_simp
        refine (HN.out _).mono ?_
        rintro e w2 ⟨rfl, hb2⟩
        have x2 := (hb2.cell (p := ⟨a, 1, none⟩) (World.block_lt_of_cell? _ _ hS)).trans hS
        have HBE := Lib.hid (HBD.out.trans (hb2.mono HBD.out.size))
        refine hK'.out _ _ x2 (fun hSn => ?_)
        clear hK' K' hS hb2 x2
        have hS := hSn
        clear hSn
        try simp only [Act.put, pu]
        refine wpAnyH_ready (rs := [8]) (by kernel_rfl) (by simp) (AllReadyH.cons rfl (fun K' hK' => ?_) AllReadyH.nil)
        go_simp
        refine (HS2.out _).mono ?_
        rintro e w3 ⟨rfl, hb3⟩
        have x3 := (hb3.cell (p := ⟨a, 1, none⟩) (World.block_lt_of_cell? _ _ hS)).trans hS
        have HBF := Lib.hid (HBE.out.trans (hb3.mono HBE.out.size))
        refine hK'.out _ _ x3 (fun hSn => ?_)
        clear hK' K' hS hb3 x3
        have hS := hSn
        clear hSn
        try simp only [Act.put, pu]
        refine tkY 9 ?_ rfl hS ?_ ?_
        rotate_left
        · intro wz hz
          go_simp
          all_goals first | with_reducible rfl | omega
        try simp only [Act.put, pu]
        refine wpAnyH_ready (rs := [10]) (by kernel_rfl) (by simp) (AllReadyH.cons rfl (fun K' hK' => ?_) AllReadyH.nil)
        go_simp
        refine (HP.out _ HBF.out).mono ?_
        rintro e w4 ⟨rfl, hst⟩
        have x4 := HX.out _ hst
        have HST := Lib.hid hst
        refine hK'.out _ _ x4 (fun hSn => ?_)
        clear hK' K' hS hst x4
        have hS := hSn
        clear hSn
        try simp only [Act.put, pu]
        refine wpAnyH_done (by kernel_rfl) ?_ _
        clear hS
        go_wp2
        go_ret
        exact ⟨rfl, HST.out⟩
      · go_enter Tryd.func9, Tryd.ntmps9
        go_upto_region 8 with (go_at_call 27; refine hG.mono ?_; rintro e w' ⟨rfl, rfl⟩)
        refine wp_region_held_drew (S := fun W => W.cell? ⟨a, 1, none⟩ = some (mpV C.hb)) (by kernel_rfl) ?_ (fun hS => ?_)
        · exact X1.out
        have hb0 : Below W1.heap.size W1 W1.drew := (Below.refl _ _).drew
        obtain ⟨WD, hWD⟩ : ∃ w, W1.drew = w := ⟨_, rfl⟩
        rw [hWD] at hb0 hS ⊢
        clear hWD
        have HBD := Lib.hid hb0
        clear hb0
        refine tkY 0 ?_ rfl hS ?_ ?_
        rotate_left
        · intro wz hz
          have x1 := hz
          go_simp
          all_goals first | with_reducible rfl | omega
        try simp only [Act.put, pu]
        refine tkY 1 ?_ rfl hS ?_ ?_
        rotate_left
        · intro wz hz
          have x1 := hz
          go_simp
          all_goals first | with_reducible rfl | omega
        try simp only [Act.put, pu]
        refine tkY 2 ?_ rfl hS ?_ ?_
        rotate_left
        · intro wz hz
          have x1 := hz
          go_simp
          all_goals first | with_reducible rfl | omega
        try simp only [Act.put, pu]
        refine tkY 3 ?_ rfl hS ?_ ?_
        rotate_left
        · intro wz hz
          have x1 := hz
          go_simp
          all_goals first | with_reducible rfl | omega
        try simp only [Act.put, pu]
        refine tkY 4 ?_ rfl hS ?_ ?_
        rotate_left
        · intro wz hz
          have x1 := hz
          go_simp
          all_goals first | with_reducible rfl | omega
        try simp only [Act.put, pu]
        refine tkY 5 ?_ rfl hS ?_ ?_
        rotate_left
        · intro wz hz
          have x1 := hz
          go_simp
          all_goals first | with_reducible rfl | omega
        try simp only [Act.put, pu]
        refine tkY 7 ?_ rfl hS ?_ ?_
        rotate_left
        · intro wz hz
          have x1 := hz
          go_simp
          all_goals first | with_reducible rfl | omega
        try simp only [Act.put, pu]
        refine wpAnyH_ready (rs := [6]) (by kernel_rfl) (by simp) (AllReadyH.cons rfl (fun K' hK' => ?_) AllReadyH.nil)
        go_simp
        refine (HN.out _).mono ?_
        rintro e w2 ⟨rfl, hb2⟩
        have x2 := (hb2.cell (p := ⟨a, 1, none⟩) (World.block_lt_of_cell? _ _ hS)).trans hS
        have HBE := Lib.hid (HBD.out.trans (hb2.mono HBD.out.size))
        refine hK'.out _ _ x2 (fun hSn => ?_)
        clear hK' K' hS hb2 x2
        have hS := hSn
        clear hSn
        try simp only [Act.put, pu]
        refine wpAnyH_ready (rs := [8]) (by kernel_rfl) (by simp) (AllReadyH.cons rfl (fun K' hK' => ?_) AllReadyH.nil)
        go_simp
        refine (HS2.out _).mono ?_
        rintro e w3 ⟨rfl, hb3⟩
        have x3 := (hb3.cell (p := ⟨a, 1, none⟩) (World.block_lt_of_cell? _ _ hS)).trans hS
        have HBF := Lib.hid (HBE.out.trans (hb3.mono HBE.out.size))
        refine hK'.out _ _ x3 (fun hSn => ?_)
        clear hK' K' hS hb3 x3
        have hS := hSn
        clear hSn
        try simp only [Act.put, pu]
        refine tkY 9 ?_ rfl hS ?_ ?_
        rotate_left
        · intro wz hz
          go_simp
          all_goals first | with_reducible rfl | omega
        try simp only [Act.put, pu]
        refine wpAnyH_ready (rs := [10]) (by kernel_rfl) (by simp) (AllReadyH.cons rfl (fun K' hK' => ?_) AllReadyH.nil)
        go_simp
        refine (HP.out _ HBF.out).mono ?_
        rintro e w4 ⟨rfl, hst⟩
        have x4 := HX.out _ hst
        have HST := Lib.hid hst
        refine hK'.out _ _ x4 (fun hSn => ?_)
        clear hK' K' hS hst x4
        have hS := hSn
        clear hSn
        try simp only [Act.put, pu]
        refine wpAnyH_done (by kernel_rfl) ?_ _
        clear hS
        go_wp2
        go_ret
        exact ⟨rfl, HST.out⟩
end
end Go.Proofs.YtkifmhdceobfhaaDoor.PP
