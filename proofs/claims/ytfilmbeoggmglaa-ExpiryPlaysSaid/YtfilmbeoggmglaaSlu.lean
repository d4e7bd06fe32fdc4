/- What package slru's makeRoom does to a store. Condition: that the bytes wanted are at most the budget. -/
import Derived.Test.YtfilmbeoggmglaaSlt
import Derived.Test.YtfilmbeoggmglaaShelf
import Derived.Deep.LoopGhost
import Derived.Deep.AppendLies
import Derived.Deep.RegionWith
namespace Go.Proofs.Ytfilmbeoggmglaa.SL
open Go.ChangeShapes Go.WideShapes Go.ChangeAt Go.RowKit Go.Maps Go.ChangeMaps
set_option maxRecDepth 100000
set_option linter.unusedVariables false
set_option linter.unusedSimpArgs false

theorem clone_any (s : ByteArray) (w : World) (hs : s.size ≤ 281474976710656) :
    Calls Try.prog 45 #[.string s] w fun e w' => e = .returned (.string s) ∧ Below w.heap.size w w' := by
  have c := fun w => Try.stringslite_Clone s w (by omega)
  go_enter Try.func45, Try.ntmps45
  go_wp2_with (go_at_call 68; refine (c _).mono ?_; rintro e w' ⟨rfl, hb⟩)
  go_ret
  exact ⟨rfl, hb⟩
abbrev enV (k : ByteArray) (z : Int) : Value := .agg #[.string k, .int .i64 z]
abbrev enZ : Value := .agg #[.string ⟨#[]⟩, .int .i64 0]
theorem en_eq (k : ByteArray) (z : Int) (hz : 1 ≤ z) (w : World) : (binOp .eql 86 (enV k z) enZ).run Try.prog w = .ok (.bool false) w := by
  have h0 : ¬ z = 0 := by omega
  go_simp
theorem en_ne (k : ByteArray) (z : Int) (hz : 1 ≤ z) (w : World) : (binOp .neq 86 (enV k z) enZ).run Try.prog w = .ok (.bool true) w := by
  have h0 : ¬ z = 0 := by omega
  go_simp
theorem en_eq0 (w : World) : (binOp .eql 86 enZ enZ).run Try.prog w = .ok (.bool true) w := by
  go_simp
theorem en_ne0 (w : World) : (binOp .neq 86 enZ enZ).run Try.prog w = .ok (.bool false) w := by
  go_simp
/-- the last block of a ring -/
theorem GG.last {s0 s1 : Int} {e0 e1 : Nat} {T K : List Nat} {F : Nat → Nd} (h : GG s0 s1 e0 e1 T K F) : (T = [] ∧ (F e0).nw = some e0) ∨ ∃ L c, T = L ++ [c] ∧ (F e0).nw = some c := by
  obtain ⟨a, A, c, C, h1, h2, h3, h4⟩ := ring_ends h.l0
  rcases List.eq_nil_or_concat T with rfl | ⟨L, d, rfl⟩
  · left
    cases C with
    | nil => simp at h3; exact ⟨rfl, by rw [h4, h3]⟩
    | cons x C => simp at h3
  · right
    refine ⟨L, d, by simp, ?_⟩
    rw [h4]
    rw [List.concat_eq_append, ← List.cons_append] at h3
    have := List.append_inj_right' h3 rfl
    simpa using this.symm
theorem sl_one (t : TypeId) {W : World} {b : Nat} {k : ByteArray} (h : Bk W b t #[.string k]) : ∀ (i : Nat) (v : Value), [Value.string k][i]? = some v → W.cell? ((⟨b, 0, none⟩ : Addr).add i) = some v := by
  intro i v hi
  rw [Addr.add_lit, Nat.zero_add]
  rw [h.cell i]
  simpa using hi
theorem iStr : ∃ i, Try.prog.info? 9 = some i ∧ i.zero = some (.string ByteArray.empty) ∧ i.size = 1 ∧ i.bytes = 16 := by
  have h : (Try.prog.info? 9).bind (fun i => if i.size = 1 ∧ i.bytes = 16 then i.zero else none) = some (.string ByteArray.empty) := by kernel_rfl
  cases hi : Try.prog.info? 9 with
  | none => rw [hi] at h; cases h
  | some j =>
    rw [hi] at h
    by_cases hc : j.size = 1 ∧ j.bytes = 16
    · simp [hc] at h
      exact ⟨j, rfl, h, hc.1, hc.2⟩
    · simp [hc] at h
/-- one text more -/
theorem wpList_app_text {w : World} {ops : Array Oper} {rest : List Oper} {o : Oper} {a : Act} {Q : Exit → Act → World → Prop} (B : Nat) (v : Value) (d : List ByteArray) (k : ByteArray) (b : Nat) (hgd : o.guard = none) (s x : Operand)
    (ho : o.op = .call { callee := .builtin .append, args := #[s, x], argTypes := #[33, 33] }) (hs : a.eval s = v) (hown : OT B w v d) (hx : a.eval x = .slice (some ⟨b, 0, none⟩) 1 1) (hb : Bk w b 9 #[.string k])
    (hd : d.length ≤ 1099511627776) (hB : B ≤ w.heap.size)
    (hk : ∀ g cap w', OT B w' (.slice (some ⟨g, 0, none⟩) (d.length + 1) cap) (d ++ [k]) → w.grownBy w' v.ownBlock → wpList Try.prog ops Q rest (a.put o.dst (.slice (some ⟨g, 0, none⟩) (d.length + 1) cap)) w') : wpList Try.prog ops Q (o :: rest) a w := by
  obtain ⟨i, hi, hz, hsz, hby⟩ := iStr
  refine wpList_append_lies _ hgd s x 33 ho B 9 i (.string ByteArray.empty) 1 16 Try.underlying33 hi hz hsz hby rfl (by decide) v d.length (d.map bV) hs hown ⟨b, 0, none⟩ 1 1 [.string k] hx rfl (sl_one _ hb) (by intro u hu; simp at hu; subst hu; rfl) (by decide) (by unfold maxLen; omega) (by omega) hB _ rfl ?_
  intro g cap w' h1 h2 h3 h4
  refine hk g cap w' ?_ h2
  unfold OT
  rw [List.length_append, List.map_append]
  exact h1
/-- what stands last in a list of blocks -/
theorem last_of {F : Nat → Nd} {L : List Nat} {c : Nat} (hu : ∀ a b, (a ∈ L ++ [c]) → (b ∈ L ++ [c]) → (F a).k = (F b).k → a = b) (hn : (L ++ [c]).Nodup) :
    delE (F c).k (en F (L ++ [c])) = (en F (L ++ [c])).dropLast ∧ (en F (L ++ [c])).getLast? = some ((F c).k, (F c).z) ∧ (en F (L ++ [c])).length = L.length + 1 ∧ (en F (L ++ [c])).dropLast.length = L.length := by
  have e : en F (L ++ [c]) = en F L ++ [((F c).k, (F c).z)] := by unfold en; rw [List.map_append]; rfl
  refine ⟨?_, by rw [e]; simp, by unfold en; simp, by rw [e, List.dropLast_concat]; unfold en; simp⟩
  rw [e, List.dropLast_concat]
  unfold delE
  rw [List.filter_append, List.filter_eq_self.2, List.filter_cons, if_neg (by simp), List.filter_nil, List.append_nil]
  intro y hy
  obtain ⟨b, hb, rfl⟩ := List.mem_map.1 hy
  simp only [ne_eq, decide_not, Bool.not_eq_true', decide_eq_false_iff_not]
  intro ek
  have := hu b c (by simp [hb]) (by simp) ek
  subst this
  exact (List.nodup_append.1 hn).2.2 b hb b (by simp) rfl
theorem St.lastT {w : World} {g n : Nat} {al ke mo : Int} {x : Sx} (h : St w g n al ke mo x) {L : List Nat} {c : Nat} (hT : x.T = L ++ [c]) :
    delE (x.F c).k x.tE = x.tE.dropLast ∧ delE (x.F c).k x.kE = x.kE ∧ x.tE.getLast? = some ((x.F c).k, (x.F c).z) ∧ x.tE.length = L.length + 1 ∧ x.tE.dropLast.length = L.length ∧ x.nd c ∧ 1 ≤ (x.F c).z ∧ ((x.F c).k, (x.F c).z) ∈ x.tE := by
  have hc : c ∈ x.T := by rw [hT]; simp
  obtain ⟨h1, h2, h3, h4⟩ := last_of (F := x.F) (L := L) (c := c) (fun a b ha hb e => h.gg.uq a b (.inl (by rw [hT]; exact ha)) (.inl (by rw [hT]; exact hb)) e) (by rw [← hT]; exact (List.nodup_cons.1 h.gg.n0).2)
  rw [← hT] at h1 h2 h3 h4
  refine ⟨h1, del_none fun y hy => ?_, h2, h3, h4, .inr (.inr (.inl hc)), h.gg.pos c (.inl hc), List.mem_map.2 ⟨c, hc, rfl⟩⟩
  obtain ⟨b, hb, rfl⟩ := List.mem_map.1 hy
  intro e
  have := h.gg.uq b c (.inr hb) (.inl hc) e
  subst this
  exact h.gg.ap b (.inr hc) (.inr hb)
theorem St.lastK {w : World} {g n : Nat} {al ke mo : Int} {x : Sx} (h : St w g n al ke mo x) {L : List Nat} {c : Nat} (hT : x.K = L ++ [c]) :
    delE (x.F c).k x.kE = x.kE.dropLast ∧ delE (x.F c).k x.tE = x.tE ∧ x.kE.getLast? = some ((x.F c).k, (x.F c).z) ∧ x.kE.length = L.length + 1 ∧ x.kE.dropLast.length = L.length ∧ x.nd c ∧ 1 ≤ (x.F c).z ∧ ((x.F c).k, (x.F c).z) ∈ x.kE := by
  have hc : c ∈ x.K := by rw [hT]; simp
  obtain ⟨h1, h2, h3, h4⟩ := last_of (F := x.F) (L := L) (c := c) (fun a b ha hb e => h.gg.uq a b (.inr (by rw [hT]; exact ha)) (.inr (by rw [hT]; exact hb)) e) (by rw [← hT]; exact (List.nodup_cons.1 h.gg.n1).2)
  rw [← hT] at h1 h2 h3 h4
  refine ⟨h1, del_none fun y hy => ?_, h2, h3, h4, .inr (.inr (.inr hc)), h.gg.pos c (.inr hc), List.mem_map.2 ⟨c, hc, rfl⟩⟩
  obtain ⟨b, hb, rfl⟩ := List.mem_map.1 hy
  intro e
  have := h.gg.uq b c (.inl hb) (.inr hc) e
  subst this
  exact h.gg.ap b (.inr hb) (.inr hc)
def RoomP (g n : Nat) (al ke mo : Int) (x : Sx) (R : List En × List En × List ByteArray) (w : World) (e : Ending) (w' : World) : Prop :=
  ∃ v x', e = .returned v ∧ OT w.heap.size w' v R.2.2 ∧ St w' g n al ke mo x' ∧ x'.tE = R.1 ∧ x'.kE = R.2.1 ∧ (∀ y, x'.own g y → x.own g y) ∧ Chg (x.own g) w w'
theorem OT.chg {B : Nat} {w w' : World} {v : Value} {d : List ByteArray} {S : Nat → Prop} (h : OT B w v d) (hc : Chg S w w') (hn : ∀ k, v.ownBlock = some k → ¬ S k) : OT B w' v d :=
  h.keep fun k hk => hc.block k (World.ownsRow.lt h k hk).2 (hn k hk)
theorem OT.below {B : Nat} {w w' : World} {v : Value} {d : List ByteArray} (h : OT B w v d) (hc : Below w.heap.size w w') : OT B w' v d := h.keep fun k hk => hc.block k (World.ownsRow.lt h k hk).2
set_option maxHeartbeats 1000000 in
theorem room_any (w : World) (g n : Nat) (al ke mo : Int) (x : Sx) (h : St w g n al ke mo x) (z : Int) (hz : 1 ≤ z ∧ z ≤ al ∧ al ≤ 1073741824) (hks : ∀ y ∈ x.tE ++ x.kE, y.1.size ≤ 281474976710656) (R : List En × List En × List ByteArray) (hR : roomE al z (x.tE.length + x.kE.length) x.tE x.kE = R) :
    Calls Try.prog 43 #[ptr g, .int .i64 z] w (RoomP g n al ke mo x R w) := by
  have HH := Lib.hid h
  have HZ := Lib.hid hz
  have HR := Lib.hid hR
  have HKS := Lib.hid hks
  have HN := Lib.hid (show x.tE.length + x.kE.length ≤ 1073741824 by have := sum_pos h.gg.en_pos.1; have := sum_pos h.gg.en_pos.2; have := h.lim; have e1 : sumE x.tE = sumE (en x.F x.T) := rfl; have e2 : sumE x.kE = sumE (en x.F x.K) := rfl; have e3 : x.tE.length = (en x.F x.T).length := rfl; have e4 : x.kE.length = (en x.F x.K).length := rfl; omega)
  clear h hz hR hks
  go_enter Try.func43, Try.ntmps43
  go_wp2
  go_loopg [5] (x.tE.length + x.kE.length) (fun gk u5 wx => ∃ x' gone, St wx g n al ke mo x' ∧ OT w.heap.size wx u5 gone ∧ x'.tE.length + x'.kE.length = gk ∧ gone.length + gk = x.tE.length + x.kE.length ∧ (roomE al z gk x'.tE x'.kE).1 = R.1 ∧ (roomE al z gk x'.tE x'.kE).2.1 = R.2.1 ∧ gone ++ (roomE al z gk x'.tE x'.kE).2.2 = R.2.2 ∧ (∀ y, x'.own g y → x.own g y) ∧ Chg (x.own g) w wx ∧ ∀ y ∈ x'.tE ++ x'.kE, y.1.size ≤ 281474976710656)
  case atStart => exact ⟨x, [], HH.out, OT.nil _ _, rfl, by simp, by rw [HR.out], by rw [HR.out], by rw [HR.out]; rfl, fun _ e => e, Chg.refl _ _, HKS.out⟩
  case round =>
    obtain ⟨x', gone, hst, hot, hgk, hln, hr1, hr2, hr3, hown, hchg, hks⟩ := hrel
    have hsum := hst.sums
    have hlim := hst.lim
    have hz := HZ.out
    obtain ⟨c0, c1, _, _, c4, _, c6, _, _⟩ := hst.cells
    obtain ⟨sT, hsT⟩ : ∃ s, sumE x'.tE = s := ⟨_, rfl⟩
    obtain ⟨sK, hsK⟩ : ∃ s, sumE x'.kE = s := ⟨_, rfl⟩
    have HBF := Lib.hid (fun N => bytes_false (wr.drewN N) g n al ke mo x' (hst.sm ⟨rfl, rfl, rfl, rfl⟩))
    have HBT := Lib.hid (fun N => bytes_true (wr.drewN N) g n al ke mo x' (hst.sm ⟨rfl, rfl, rfl, rfl⟩))
    rw [hsT] at HBF hsum hlim
    rw [hsK] at HBT hsum hlim
    obtain ⟨hs0, hs1⟩ := hsum
    obtain ⟨hz1, hz2, hz3⟩ := hz
    have w1 : IntKind.i64.wrap (sT + sK) = sT + sK := IntWalk.i64_in _ (by omega)
    have w2 : IntKind.i64.wrap (sT + sK + z) = sT + sK + z := IntWalk.i64_in _ (by omega)
    have w3 : 0 ≤ sT + sK := by omega
    have w4 : sT + sK ≤ 1073741824 := hlim
    by_cases hc : al < sT + sK + z
    · have w5 : decide (al < sT + sK + z) = true := decide_eq_true hc
      go_wp2
      go_quiet ((go_at_call 23; first | (with_reducible exact Calls.quiet_of (HBF.out _)) | (with_reducible exact Calls.quiet_of (HBT.out _))))
      obtain ⟨W0, hW0⟩ : ∃ W0, wr.drewN nq = W0 := ⟨_, rfl⟩
      have sm0 : Sm wr W0 := by rw [← hW0]; exact ⟨rfl, rfl, rfl, rfl⟩
      rw [hW0]
      obtain ⟨b0, b1, _, _, b4, _, b6, _, _⟩ := (hst.sm sm0).cells
      obtain ⟨y0, y1, _, y3, _⟩ := (hst.sm sm0).node (b := x'.e0) (.inl rfl)
      obtain ⟨_, _, _, v3, _⟩ := (hst.sm sm0).node (b := x'.e1) (.inr (.inl rfl))
      rw [hst.gg.z0.1] at y0
      rw [hst.gg.z0.2] at y1
      clear HBF HBT c0 c1 c4 c6
      rcases hst.gg.last with ⟨hTn0, hnw⟩ | ⟨L, c, hL, hnw⟩
      · rw [hnw] at y3
        have hTn : x'.tE = [] := by show en x'.F x'.T = []; rw [hTn0]; rfl
        rcases hst.gg.swap.last with ⟨hKn, _⟩ | ⟨L, c, hL, hnw2⟩
        · exfalso
          have h1 : sT = 0 := by rw [← hsT, hTn]; rfl
          have h2 : sK = 0 := by rw [← hsK]; show sumE (en x'.F x'.K) = 0; rw [hKn]; rfl
          omega
        rw [hnw2] at v3
        obtain ⟨kc, hkc⟩ : ∃ k, (x'.F c).k = k := ⟨_, rfl⟩
        obtain ⟨zc, hzc⟩ : ∃ z, (x'.F c).z = z := ⟨_, rfl⟩
        obtain ⟨q1, q2, q3, q4, q5, q6, q7, q8⟩ := hst.lastK hL
        rw [hkc] at q1 q2 q3 q8
        rw [hzc] at q3 q7 q8
        obtain ⟨d0, d1, _⟩ := (hst.sm sm0).node q6
        rw [hkc] at d0
        rw [hzc] at d1
        have hkk : kc.size ≤ 281474976710656 := hks (kc, zc) (by simp [q8])
        obtain ⟨gko, hgo⟩ : ∃ gko, gk = gko + 1 := ⟨gk - 1, by omega⟩
        subst hgo
        have hroom : roomE al z (gko + 1) x'.tE x'.kE = ((roomE al z gko x'.tE x'.kE.dropLast).1, (roomE al z gko x'.tE x'.kE.dropLast).2.1, kc :: (roomE al z gko x'.tE x'.kE.dropLast).2.2) := by
          rw [roomE, hsT, hsK, if_pos hc]; rw [hTn, q3]; rfl
        rw [hroom] at hr1 hr2 hr3
        simp only at hr1 hr2 hr3
        have HDR := Lib.hid (fun (W : World) (hW : Below W0.heap.size W0 W) => drop_any W g n al ke mo x' ((hst.sm sm0).below hW) kc hkk)
        have hlt := fun b hb => (hst.sm sm0).lt (b := b) hb
        have HLT := Lib.hid hlt
        have HW0 := Lib.hid (show Chg (x.own g) w W0 from hchg.trans (sm0.chg _))
        have HOT0 := Lib.hid (show OT w.heap.size W0 u5 gone from hot.keep fun q hq => by rw [sm0.heap])
        have HOWN := Lib.hid hown
        have HR1 := Lib.hid hr1
        have HR2 := Lib.hid hr2
        have HR3 := Lib.hid hr3
        have HGL := Lib.hid hln
        have HGK := Lib.hid hgk
        have HKS1 := Lib.hid hks
        have Q1 := Lib.hid q1
        have Q2 := Lib.hid q2
        have HLEN := Lib.hid (show x'.tE.length + x'.kE.dropLast.length = gko by omega)
        have qe := fun W => en_eq kc zc q7 W
        have qz := en_eq0
        have HL0 := Lib.hid (last_any W0 g 4 x'.e0 x'.e0 b4 y3)
        have HL1 := Lib.hid (fun (W : World) (hW : Below W0.heap.size W0 W) => last_any W g 6 x'.e1 c ((hW.cell (p := ⟨g, 6, none⟩) (hlt g (.inl rfl))).trans b6) ((hW.cell (p := ⟨x'.e1, 3, none⟩) (hlt _ (.inr (.inr (.inr (.inl rfl)))))).trans v3))
        have HCC := Lib.hid (fun (W : World) (hW : Below W0.heap.size W0 W) => (show W.cell? ⟨c, 0, none⟩ = some (.string kc) ∧ W.cell? ⟨c, 1, none⟩ = some (.int .i64 zc) from ⟨(hW.cell (p := ⟨c, 0, none⟩) (hlt _ (.inr (.inr q6)))).trans d0, (hW.cell (p := ⟨c, 1, none⟩) (hlt _ (.inr (.inr q6)))).trans d1⟩))
        clear hst hot hgk hln hr1 hr2 hr3 hown hchg hks hsT hsK hc sm0 hW0 hlt hroom q1 q2 q3 q4 q5 q6 q7 q8 hkk hkc hzc hL hTn hTn0 hnw hnw2
        go_wp2_with fail
        refine HL0.out.mono ?_
        rintro e w' ⟨rfl, rfl⟩
        go_wp2_with fail
        refine (HL1.out _ ((Below.refl _ _).alloc (Nat.le_refl _) _)).mono ?_
        rintro e w' ⟨rfl, rfl⟩
        obtain ⟨cc0, cc1⟩ := HCC.out (W0.alloc (.cells #[.string ByteArray.empty, .int .i64 0] 86)) ((Below.refl _ _).alloc (Nat.le_refl _) _)
        go_wp2_with fail
        obtain ⟨W1, hW1⟩ : ∃ W1, W0.alloc (.cells #[.string kc, .int .i64 zc] 86) = W1 := ⟨_, rfl⟩
        have hb1 : Below W0.heap.size W0 W1 := by rw [← hW1]; exact (Below.refl _ _).alloc (Nat.le_refl _) _
        have hk1 : Bk W1 W0.heap.size 86 #[.string kc, .int .i64 zc] := by rw [← hW1]; exact Bk.new _ _ _
        rw [hW1]
        clear hW1
        refine (HDR.out W1 hb1).mono ?_
        rintro e w2 ⟨rfl, x2, s1, s2, s3, s4, s5, s6⟩
        have hk2 := hk1.chg s5 (fun e => by have := HLT.out _ e; omega)
        have z0 : w2.cell? ⟨W0.heap.size, 0, none⟩ = some (.string kc) := hk2.cell 0
        have hot2 : OT w.heap.size w2 u5 gone := (HOT0.out.below hb1).chg s5 (fun q hq e => by have h1 := (World.ownsRow.lt HOT0.out q hq).1; have h2 := HH.out.lt (HOWN.out _ e); omega)
        have HOT2 := Lib.hid hot2
        have HC2 := Lib.hid (show Chg (x.own g) w w2 from HW0.out.trans ((Chg.of_below hb1).trans (s5.mono fun b _ hb => HOWN.out b hb)))
        have HS2 := Lib.hid (show St w2 g n al ke mo x2 from s1)
        have HT2 := Lib.hid s2
        have HK2 := Lib.hid s3
        have HO2 := Lib.hid (show ∀ y, x2.own g y → x.own g y from fun y hy => HOWN.out y (s4 y hy))
        have HWS := Lib.hid (show w.heap.size ≤ w2.heap.size from HC2.out.size)
        clear hb1 hk1 hk2 hot2 s1 s2 s3 s4 s5 s6
        go_wp2_with (at_builtin; refine wpList_app_text w.heap.size u5 gone kc w2.heap.size rfl _ _ rfl rfl (HOT2.out.below ((Below.refl _ _).alloc (Nat.le_refl _) _)) rfl (Bk.new w2 _ _) (by have := HGL.out; have := HN.out; omega) (by have := HWS.out; simp; omega) ?_; intro g9 cap9 w9 o9 gr9)
        have HO9 := Lib.hid o9
        have HG9 := Lib.hid gr9
        clear o9 gr9
        go_wp2
        go_roundg gko
        case measure => exact Nat.lt_succ_self _
        case rel =>
          have hgr : ∀ b, b < w2.heap.size → (∀ k, u5.ownBlock = some k → b ≠ k) → w9.heap[b]? = w2.heap[b]? := fun b hb hn => (HG9.out.block b (by simp; omega) (fun e => hn b e.symm rfl)).trans (Below.heap_alloc _ _ _ hb)
          have hnr : ∀ b, x.own g b → ∀ k, u5.ownBlock = some k → b ≠ k := fun b hb k hk e => by have h1 := (World.ownsRow.lt HOT0.out k hk).1; have h2 := HH.out.lt hb; omega
          refine ⟨x2, gone ++ [kc], HS2.out.keep fun b hb => hgr b (HS2.out.lt hb) (hnr b (HO2.out b hb)), ?_, ?_, ?_, ?_, ?_, ?_, HO2.out, ?_, ?_⟩
          · have := HO9.out
            simpa using this
          · rw [HT2.out, HK2.out]
            rw [Q1.out, Q2.out]; exact HLEN.out
          · have := HGL.out; simp; omega
          · rw [HT2.out, HK2.out, Q1.out, Q2.out]; exact HR1.out
          · rw [HT2.out, HK2.out, Q1.out, Q2.out]; exact HR2.out
          · rw [HT2.out, HK2.out, Q1.out, Q2.out, List.append_assoc]; exact HR3.out
          · exact ((HC2.out.alloc _).grown HG9.out fun k hk hlt => by have h1 := (World.ownsRow.lt HOT0.out k hk).1; omega)
          · intro y hy
            rw [HT2.out, HK2.out] at hy
            refine HKS1.out y ?_
            rcases List.mem_append.1 hy with h0 | h0
            · exact List.mem_append.2 (.inl (List.mem_filter.1 h0).1)
            · exact List.mem_append.2 (.inr (List.mem_filter.1 h0).1)
      · rw [hnw] at y3
        obtain ⟨kc, hkc⟩ : ∃ k, (x'.F c).k = k := ⟨_, rfl⟩
        obtain ⟨zc, hzc⟩ : ∃ z, (x'.F c).z = z := ⟨_, rfl⟩
        obtain ⟨q1, q2, q3, q4, q5, q6, q7, q8⟩ := hst.lastT hL
        rw [hkc] at q1 q2 q3 q8
        rw [hzc] at q3 q7 q8
        obtain ⟨d0, d1, _⟩ := (hst.sm sm0).node q6
        rw [hkc] at d0
        rw [hzc] at d1
        have hkk : kc.size ≤ 281474976710656 := hks (kc, zc) (by simp [q8])
        obtain ⟨gko, hgo⟩ : ∃ gko, gk = gko + 1 := ⟨gk - 1, by omega⟩
        subst hgo
        have hroom : roomE al z (gko + 1) x'.tE x'.kE = ((roomE al z gko x'.tE.dropLast x'.kE).1, (roomE al z gko x'.tE.dropLast x'.kE).2.1, kc :: (roomE al z gko x'.tE.dropLast x'.kE).2.2) := by
          rw [roomE, hsT, hsK, if_pos hc]; rw [q3]
        rw [hroom] at hr1 hr2 hr3
        simp only at hr1 hr2 hr3
        have HDR := Lib.hid (fun (W : World) (hW : Below W0.heap.size W0 W) => drop_any W g n al ke mo x' ((hst.sm sm0).below hW) kc hkk)
        have hlt := fun b hb => (hst.sm sm0).lt (b := b) hb
        have HLT := Lib.hid hlt
        have HW0 := Lib.hid (show Chg (x.own g) w W0 from hchg.trans (sm0.chg _))
        have HOT0 := Lib.hid (show OT w.heap.size W0 u5 gone from hot.keep fun q hq => by rw [sm0.heap])
        have HOWN := Lib.hid hown
        have HR1 := Lib.hid hr1
        have HR2 := Lib.hid hr2
        have HR3 := Lib.hid hr3
        have HGL := Lib.hid hln
        have HGK := Lib.hid hgk
        have HKS1 := Lib.hid hks
        have Q1 := Lib.hid q1
        have Q2 := Lib.hid q2
        have HLEN := Lib.hid (show x'.tE.dropLast.length + x'.kE.length = gko by omega)
        have qe := fun W => en_eq kc zc q7 W
        have qz := en_eq0
        have HL0 := Lib.hid (last_any W0 g 4 x'.e0 c b4 y3)
        clear hst hot hgk hln hr1 hr2 hr3 hown hchg hks hsT hsK hc sm0 hW0 hlt hroom q1 q2 q3 q4 q5 q6 q7 q8 hkk hkc hzc hL hnw
        go_wp2_with fail
        refine HL0.out.mono ?_
        rintro e w' ⟨rfl, rfl⟩
        go_wp2_with fail
        obtain ⟨W1, hW1⟩ : ∃ W1, W0.alloc (.cells #[.string kc, .int .i64 zc] 86) = W1 := ⟨_, rfl⟩
        have hb1 : Below W0.heap.size W0 W1 := by rw [← hW1]; exact (Below.refl _ _).alloc (Nat.le_refl _) _
        have hk1 : Bk W1 W0.heap.size 86 #[.string kc, .int .i64 zc] := by rw [← hW1]; exact Bk.new _ _ _
        rw [hW1]
        clear hW1
        refine (HDR.out W1 hb1).mono ?_
        rintro e w2 ⟨rfl, x2, s1, s2, s3, s4, s5, s6⟩
        have hk2 := hk1.chg s5 (fun e => by have := HLT.out _ e; omega)
        have z0 : w2.cell? ⟨W0.heap.size, 0, none⟩ = some (.string kc) := hk2.cell 0
        have hot2 : OT w.heap.size w2 u5 gone := (HOT0.out.below hb1).chg s5 (fun q hq e => by have h1 := (World.ownsRow.lt HOT0.out q hq).1; have h2 := HH.out.lt (HOWN.out _ e); omega)
        have HOT2 := Lib.hid hot2
        have HC2 := Lib.hid (show Chg (x.own g) w w2 from HW0.out.trans ((Chg.of_below hb1).trans (s5.mono fun b _ hb => HOWN.out b hb)))
        have HS2 := Lib.hid (show St w2 g n al ke mo x2 from s1)
        have HT2 := Lib.hid s2
        have HK2 := Lib.hid s3
        have HO2 := Lib.hid (show ∀ y, x2.own g y → x.own g y from fun y hy => HOWN.out y (s4 y hy))
        have HWS := Lib.hid (show w.heap.size ≤ w2.heap.size from HC2.out.size)
        clear hb1 hk1 hk2 hot2 s1 s2 s3 s4 s5 s6
        go_wp2_with (at_builtin; refine wpList_app_text w.heap.size u5 gone kc w2.heap.size rfl _ _ rfl rfl (HOT2.out.below ((Below.refl _ _).alloc (Nat.le_refl _) _)) rfl (Bk.new w2 _ _) (by have := HGL.out; have := HN.out; omega) (by have := HWS.out; simp; omega) ?_; intro g9 cap9 w9 o9 gr9)
        have HO9 := Lib.hid o9
        have HG9 := Lib.hid gr9
        clear o9 gr9
        go_wp2
        go_roundg gko
        case measure => exact Nat.lt_succ_self _
        case rel =>
          have hgr : ∀ b, b < w2.heap.size → (∀ k, u5.ownBlock = some k → b ≠ k) → w9.heap[b]? = w2.heap[b]? := fun b hb hn => (HG9.out.block b (by simp; omega) (fun e => hn b e.symm rfl)).trans (Below.heap_alloc _ _ _ hb)
          have hnr : ∀ b, x.own g b → ∀ k, u5.ownBlock = some k → b ≠ k := fun b hb k hk e => by have h1 := (World.ownsRow.lt HOT0.out k hk).1; have h2 := HH.out.lt hb; omega
          refine ⟨x2, gone ++ [kc], HS2.out.keep fun b hb => hgr b (HS2.out.lt hb) (hnr b (HO2.out b hb)), ?_, ?_, ?_, ?_, ?_, ?_, HO2.out, ?_, ?_⟩
          · have := HO9.out
            simpa using this
          · rw [HT2.out, HK2.out]
            rw [Q1.out, Q2.out]; exact HLEN.out
          · have := HGL.out; simp; omega
          · rw [HT2.out, HK2.out, Q1.out, Q2.out]; exact HR1.out
          · rw [HT2.out, HK2.out, Q1.out, Q2.out]; exact HR2.out
          · rw [HT2.out, HK2.out, Q1.out, Q2.out, List.append_assoc]; exact HR3.out
          · exact ((HC2.out.alloc _).grown HG9.out fun k hk hlt => by have h1 := (World.ownsRow.lt HOT0.out k hk).1; omega)
          · intro y hy
            rw [HT2.out, HK2.out] at hy
            refine HKS1.out y ?_
            rcases List.mem_append.1 hy with h0 | h0
            · exact List.mem_append.2 (.inl (List.mem_filter.1 h0).1)
            · exact List.mem_append.2 (.inr (List.mem_filter.1 h0).1)
    · have w5 : decide (al < sT + sK + z) = false := decide_eq_false hc
      have hfin : ∀ N, RoomP g n al ke mo x R w (.returned u5) (wr.drewN N) := by
        have e : roomE al z gk x'.tE x'.kE = (x'.tE, x'.kE, []) := by
          cases gk with
          | zero => rfl
          | succ gk => unfold roomE; rw [hsT, hsK, if_neg hc]
        rw [e] at hr1 hr2 hr3
        exact fun N => ⟨u5, x', rfl, (by rw [← hr3, List.append_nil]; exact hot : OT w.heap.size wr u5 R.2.2), hst.sm ⟨rfl, rfl, rfl, rfl⟩, hr1, hr2, hown, hchg.drewN N⟩
      have HFIN := Lib.hid hfin
      clear hst hot hgk hln hr1 hr2 hr3 hown hchg hks hsT hsK hc hfin
      go_wp2
      go_quiet ((go_at_call 23; first | (with_reducible exact Calls.quiet_of (HBF.out _)) | (with_reducible exact Calls.quiet_of (HBT.out _))))
      go_wp2
      go_ret
      exact HFIN.out _
end Go.Proofs.Ytfilmbeoggmglaa.SL
