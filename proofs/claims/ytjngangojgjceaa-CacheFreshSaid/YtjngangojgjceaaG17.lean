/- slices.Grow of no list, slices.Concat of two lists of texts. Conditions: how many.
   Package cache: texts, forget. Conditions: how many, how long keys are, how many puts there were.
   Package cache: what is not there; Tick, Flush, Keys, Bytes; made, New. Conditions: how many, how long keys are, how many puts there were. -/
import Derived.Test.YtjngangojgjceaaG16
import Derived.Lib.AppendZerosOnto
set_option linter.unusedSimpArgs false
set_option linter.unusedVariables false
namespace Go.Proofs.Ytjngangojgjceaa.CA
open Go.ChangeShapes Go.WideShapes Go.ChangeAt Go.RowKit Go.Maps Go.ChangeMaps
open Go.Proofs.Ytjngangojgjceaa.SL Go.Proofs.Ytjngangojgjceaa.EX Go.Proofs.Ytjngangojgjceaa.RW
set_option maxRecDepth 100000
set_option linter.unusedVariables false
set_option linter.unusedSimpArgs false

def GroP (w : World) (e : Ending) (w' : World) : Prop := ∃ a c, e = .returned (.slice a 0 c) ∧ OT w.heap.size w' (.slice a 0 c) [] ∧ Below w.heap.size w w'
/-- a list of texts put behind a list that the call owns -/
theorem wpList_app_texts {w : World} {ops : Array Oper} {rest : List Oper} {o : Oper} {a : Act} {Q : Exit → Act → World → Prop} (B : Nat) (v : Value) (d : List ByteArray) (v2 : Value) (e : List ByteArray) (L : List ByteArray) (hL : d ++ e = L) (hgd : o.guard = none) (s x : Operand)
    (ho : o.op = .call { callee := .builtin .append, args := #[s, x], argTypes := #[66, 66] }) (hs : a.eval s = v) (hown : OT B w v d) (hx : a.eval x = v2) (h2 : TS w v2 e)
    (hd : d.length + e.length ≤ 1099511627776) (hB : B ≤ w.heap.size)
    (hk : ∀ va c w', OT B w' (.slice va L.length c) L → w.grownBy w' v.ownBlock ∨ w = w' → wpList Try.prog ops Q rest (a.put o.dst (.slice va L.length c)) w') : wpList Try.prog ops Q (o :: rest) a w := by
  subst hL
  obtain ⟨i, hi, hz, hsz, hby⟩ := iStr
  have none_ : ∀ p c, v2 = .slice p 0 c → e = [] → wpList Try.prog ops Q (o :: rest) a w := by
    rintro p c rfl rfl
    have hown0 := hown
    obtain ⟨va, vc, rfl⟩ := SL.OT.form hown
    refine wpList_plain hgd fun K' hK => ?_
    have hrun := SL.run_app_nothing (P := Try.prog) (w := w) B 66 o.type 9 i 1 Try.underlying66 hi _ _ _ hown p c
    unfold Oper.wp
    simp [execOp, ho, resolve, invoke, builtin, hs, hx, hrun, Result.andThen]
    refine hK _ _ ?_
    have := hk va vc w (by rw [List.append_nil]; exact hown0) (.inr rfl)
    rw [List.append_nil] at this
    exact this
  rcases h2 with ⟨A, cap, e1, e2⟩ | ⟨b, off, cap, e1, hcap, hx2⟩
  · exact none_ A cap e1 e2
  · by_cases h0 : e.length = 0
    · exact none_ _ cap (by rw [e1, h0]) (List.eq_nil_of_length_eq_zero h0)
    · subst e1
      refine wpList_append_lies _ hgd s x 66 ho B 9 i (.string ByteArray.empty) 1 16 Try.underlying66 hi hz hsz hby rfl (by decide) v d.length (d.map bV) hs hown ⟨b, off, none⟩ e.length cap (e.map bV) hx (by simp) ?_ ?_ (by omega) (by unfold maxLen; omega) (by omega) hB _ rfl ?_
      · intro j u hu
        rw [List.getElem?_map] at hu
        cases hj : e[j]? with
        | none => rw [hj] at hu; cases hu
        | some y =>
          rw [hj] at hu
          injection hu with hu
          subst hu
          rw [Addr.add_lit]; exact hx2 j y hj
      · intro u hu
        obtain ⟨y, _, rfl⟩ := List.mem_map.1 hu
        rfl
      · intro g' cap' w' o1 o2 o3 o4
        have e1 : d.length + e.length = (d ++ e).length := by rw [List.length_append]
        rw [e1] at o1 ⊢
        exact hk _ _ _ (by unfold OT; rw [List.map_append]; exact o1) (.inl o2)
def pick2 {α : Type} (a b : α) (i : Nat) : α := if i = 0 then a else b
def sum2 (m n i : Nat) : Nat := if i = 0 then 0 else if i = 1 then m else m + n
def join2 {α : Type} (a b : List α) (i : Nat) : List α := if i = 0 then [] else if i = 1 then a else a ++ b
theorem sum2_step (m n i : Nat) (h : i < 2) : sum2 m n i + pick2 m n i = sum2 m n (i + 1) := by
  match i, h with
  | 0, _ => simp [sum2, pick2]
  | 1, _ => simp [sum2, pick2]
theorem join2_step {α : Type} (a b : List α) (i : Nat) (h : i < 2) : join2 a b i ++ pick2 a b i = join2 a b (i + 1) := by
  match i, h with
  | 0, _ => simp [join2, pick2]
  | 1, _ => simp [join2, pick2]
def CatP (d : List ByteArray) (w : World) (e : Ending) (w' : World) : Prop := ∃ a c, e = .returned (.slice a d.length c) ∧ OT w.heap.size w' (.slice a d.length c) d ∧ Below w.heap.size w w'
end Go.Proofs.Ytjngangojgjceaa.CA
namespace Go.Proofs.Ytjngangojgjceaa.CA
open Go.ChangeShapes Go.WideShapes Go.ChangeAt Go.RowKit Go.Maps Go.ChangeMaps
open Go.Proofs.Ytjngangojgjceaa.SL Go.Proofs.Ytjngangojgjceaa.EX Go.Proofs.Ytjngangojgjceaa.RW
set_option maxRecDepth 100000
set_option linter.unusedVariables false
set_option linter.unusedSimpArgs false

/-- a list of keys that was told -/
def Kk (B : Nat) (v : Value) (d : List Ky) : Kp := .keep (fun w => KO 23 B w v d) (fun b => v.ownBlock = some b)
section
variable {w0 w w' : World} {C : Cb} {N : Nat} {σ : Sg} {O : List Kp}
theorem LC.addK (h : LC w0 w C N σ O) (hb : Below w.heap.size w w') {v : Value} {d : List Ky} (hv : KO 23 w.heap.size w' v d) : LC w0 w' C N σ (Kk w0.heap.size v d :: O) :=
  h.addO hb (hv.mono h.bel.size) (fun b hb2 => ⟨(World.ownsRow.lt hv b hb2).1, (World.ownsRow.lt hv b hb2).2⟩) fun w1 w2 h1 hk => h1.keepB hk
theorem LC.keysK (h : LC w0 w C N σ O) {v : Value} {d : List Ky} (hm : Kk w0.heap.size v d ∈ O) : KO 23 w0.heap.size w v d := h.kp hm
theorem dropsS_snoc (l : List ByteArray) (t : ByteArray) (s : Sg) : dropsS (l ++ [t]) s = dropS t (dropsS l s) := by unfold dropsS; rw [List.foldl_append]; rfl
theorem drops_V {l : List ByteArray} {i : Nat} {t : ByteArray} {s : Sg} (hn : l.Nodup) (hi : l[i]? = some t) (ho : okP t = true) (hv : (s.V t).isSome = true) : ∃ e, fV (dropsS (l.take i) s).V (parK t) = some e := by
  have h1 := par_ok ho
  have hni : t ∉ l.take i := by
    intro hm
    obtain ⟨j, hj⟩ := List.getElem?_of_mem hm
    rw [List.getElem?_take] at hj
    split at hj
    · rename_i hlt
      obtain ⟨a1, a2⟩ := List.getElem?_eq_some_iff.1 hj
      obtain ⟨b1, b2⟩ := List.getElem?_eq_some_iff.1 hi
      exact List.pairwise_iff_getElem.1 hn j i a1 b1 hlt (a2.trans b2.symm)
    · cases hj
  obtain ⟨v, hv2⟩ := Option.isSome_iff_exists.1 hv
  refine ⟨(t, v), ?_⟩
  unfold fV
  rw [if_pos h1.1, h1.2, dropsS_V]
  simp only
  rw [if_neg hni, hv2]; rfl
/-- texts whose keys are there -/
structure There (l : List ByteArray) (s : Sg) : Prop where
  nd : l.Nodup
  ok : ∀ t ∈ l, okP t = true ∧ t.size ≤ 4000
  vs : ∀ t ∈ l, (s.V t).isSome = true
theorem fit_par {t : ByteArray} (h : okP t = true) (hs : t.size ≤ 4000) : FitK (parK t) := by
  have h1 := par_ok h
  have h2 := text_size h1.1
  rw [h1.2] at h2
  have h3 := (right_iff.1 h1.1).2.2.2
  refine ⟨by omega, by omega, by omega, ?_, ?_⟩
  · rcases h3 with h3 | h3 <;> rw [h3] <;> omega
  · rcases h3 with h3 | h3 <;> rw [h3] <;> omega
def ForP (w0 : World) (C : Cb) (N : Nat) (σ : Sg) (O : List Kp) (d : List Ky) (e : Ending) (w' : World) : Prop := ∃ a c, e = .returned (.slice a d.length c) ∧ LC w0 w' C N σ (Kk w0.heap.size (.slice a d.length c) d :: O)
set_option maxHeartbeats 8000000 in
theorem forget_any (h : LC w0 w C N σ O) (hN : N ≤ 480) (v : Value) (l : List ByteArray) (hv : TS w v l) (ht : There l σ) (hl : l.length ≤ 1099511627776) :
    Calls Try.prog 34 #[ptr C.g, v] w (ForP w0 C N (dropsS l σ) O (l.map parK)) := by
  obtain ⟨va, vc, rfl⟩ := hv.form
  have HP := Lib.hid (parsed_any (.slice va l.length vc) l w hv hl (fun t htt => by have := (ht.ok t htt).2; omega))
  have H := Lib.hid h
  have HT := Lib.hid ht
  have HL := Lib.hid hl
  have HN := Lib.hid hN
  clear h hv ht hl hN
  unfold ForP
  unfold KeysC at HP
  obtain ⟨D, hD⟩ : ∃ D, l.map parK = D := ⟨_, rfl⟩
  have hDL : D.length = l.length := by rw [← hD, List.length_map]
  rw [hD] at HP ⊢
  have HD := Lib.hid hD
  have HDL := Lib.hid hDL
  clear hD hDL
  go_enter Try.func34, Try.ntmps34
  go_wp2_with fail
  refine HP.out.mono ?_
  rintro e w2 ⟨ka, kc, rfl, ok, bk⟩
  have H := Lib.hid (H.out.addK bk ok)
  clear ok bk HP
  go_wp2
  go_loopg [12] D.length (fun g u12 wx => ∃ i : Nat, u12 = .int .i64 (i : Int) ∧ i + g = D.length ∧ LC w0 wx C N (dropsS (l.take i) σ) (Kk w0.heap.size (.slice ka D.length kc) D :: O))
  case atStart => exact ⟨0, rfl, by omega, H.out⟩
  case round =>
    obtain ⟨i, rfl, hi, hh⟩ := hrel
    have HH := Lib.hid hh
    cases gk with
    | zero =>
      have hil : i = l.length := by have := HDL.out; omega
      have l1 : ¬ ((i : Int) < (D.length : Int)) := by omega
      have hd : dropsS (l.take i) σ = dropsS l σ := by rw [hil, List.take_length]
      rw [hd] at HH
      clear hi hil hh hd
      go_wp2
      go_ret
      exact ⟨_, _, rfl, HH.out⟩
    | succ g =>
      have hlt : i < l.length := by have := HDL.out; omega
      have hx0 := (hh.keysK (List.mem_cons_self ..)).kr
      obtain ⟨b, off, cap, he, hc, hx⟩ := hx0.inv (by omega)
      injection he with e1 _ e3
      subst e1 e3
      obtain ⟨t, hy⟩ : ∃ y, l[i] = y := ⟨_, rfl⟩
      have hyi : l[i]? = some t := by rw [List.getElem?_eq_getElem hlt, hy]
      have htm := List.mem_of_getElem? hyi
      have hDi : D[i]? = some (parK t) := by rw [← HD.out, List.getElem?_map, hyi]; rfl
      obtain ⟨x0, x1, x2, x3⟩ := hx i (parK t) hDi
      have hok := HT.out.ok t htm
      have hfit := fit_par hok.1 hok.2
      obtain ⟨e9, he9⟩ := drops_V HT.out.nd hyi hok.1 (HT.out.vs t htm)
      have hdc : ∀ {W : World}, Below wr.heap.size wr W → Calls Try.prog 39 #[ptr C.g, kyV (parK t)] W (RetC w0 C N (dropsS (l.take (i + 1)) σ) (Kk w0.heap.size (.slice (some ⟨b, off, none⟩) D.length kc) D :: O) (.bool true)) := fun {W} hb => by
        have := lc_drop_yes (hh.below hb) (parK t) hfit HN.out e9 he9
        rw [(par_ok hok.1).2, ← dropsS_snoc] at this
        rw [List.take_add_one, hyi]
        exact this
      have HDC := Lib.hid (fun W (hb : Below wr.heap.size wr W) => hdc hb)
      have l0 : (0 : Int) ≤ (i : Int) := by omega
      have l1 : (i : Int) < (D.length : Int) := by omega
      obtain ⟨i1, hi1⟩ : ∃ i1, i + 1 = i1 := ⟨_, rfl⟩
      have wk : IntKind.i64.wrap ((i : Int) + 1) = (i1 : Int) := by rw [show (i : Int) + 1 = (i1 : Int) by omega]; exact IntWalk.i64_in _ (by have := HL.out; omega)
      have HI1 : Hid (i1 + g = D.length) := Lib.hid (by omega)
      rw [hi1] at HDC
      obtain ⟨K, hK⟩ : ∃ K, parK t = K := ⟨_, rfl⟩
      rw [hK] at x0 x1 x2 x3 HDC
      obtain ⟨db, ro, fm, no⟩ := K
      simp only at x0 x1 x2 x3
      clear hi hx hc hy hyi hi1 hh hlt hx0 htm hDi hok hfit he9 hdc hK
      obtain ⟨W3, hW3⟩ : ∃ W, wr.alloc (.cells #[.string db, .string ro, .int .i64 fm, .string no] 23) = W := ⟨_, rfl⟩
      obtain ⟨eb, heb⟩ : ∃ b, wr.heap.size = b := ⟨_, rfl⟩
      have hb3 : Below wr.heap.size wr W3 := by rw [← hW3]; exact (Below.refl _ _).alloc (Nat.le_refl _) _
      have ke : Bk W3 eb 23 (kC (db, ro, fm, no)) := by rw [← hW3, ← heb]; exact Bk.new _ _ _
      have e0 : W3.cell? ⟨eb, 0, none⟩ = some (.string db) := ke.cell 0
      have e1 : W3.cell? ⟨eb, 1, none⟩ = some (.string ro) := ke.cell 1
      have e2 : W3.cell? ⟨eb, 2, none⟩ = some (.int .i64 fm) := ke.cell 2
      have e3 : W3.cell? ⟨eb, 3, none⟩ = some (.string no) := ke.cell 3
      have HDC := Lib.hid (HDC.out W3 hb3)
      clear hb3 ke
      go_wp2_with fail
      refine HDC.out.mono ?_
      rintro e w4 ⟨rfl, h4⟩
      have H4 := Lib.hid h4
      clear h4 HDC
      go_wp2
      go_roundg g
      case measure => exact Nat.lt_succ_self _
      case rel => exact ⟨i1, rfl, HI1.out, H4.out⟩
end
end Go.Proofs.Ytjngangojgjceaa.CA
namespace Go.Proofs.Ytjngangojgjceaa.CA
open Go.ChangeShapes Go.WideShapes Go.ChangeAt Go.RowKit Go.Maps Go.ChangeMaps
open Go.Proofs.Ytjngangojgjceaa.SL Go.Proofs.Ytjngangojgjceaa.EX Go.Proofs.Ytjngangojgjceaa.RW
set_option maxRecDepth 100000
set_option linter.unusedVariables false
set_option linter.unusedSimpArgs false

set_option maxHeartbeats 2000000 in
theorem put_nil (k : Ky) (v : ByteArray) (now : Int) (w : World) :
    Calls Try.prog 16 #[.pointer none, kyV k, .string v, .int .i64 now] w fun e w' => e = .returned (.tuple #[.slice none 0 0, .int .i64 12]) ∧ Below w.heap.size w w' := by
  obtain ⟨W0, hW0⟩ : ∃ W, w.alloc (.cells (kC k) 23) = W := ⟨_, rfl⟩
  have hb0 : Below w.heap.size w W0 := by rw [← hW0]; exact (Below.refl _ _).alloc (Nat.le_refl _) _
  have HB := Lib.hid hb0
  clear hb0
  obtain ⟨db, ro, fm, no⟩ := k
  go_enter Try.func16, Try.ntmps16
  go_wp2_with fail
  refine (CA.given_nil _).mono ?_
  rintro e w' ⟨rfl, rfl⟩
  go_wp2
  go_ret2
  exact ⟨rfl, HB.out⟩
set_option maxHeartbeats 2000000 in
theorem put_zero (k : Ky) (v : ByteArray) (now : Int) (w : World) (g : Nat) (h : w.cell? ⟨g, 0, none⟩ = some (.pointer none)) :
    Calls Try.prog 16 #[ptr g, kyV k, .string v, .int .i64 now] w fun e w' => e = .returned (.tuple #[.slice none 0 0, .int .i64 12]) ∧ Below w.heap.size w w' := by
  obtain ⟨W0, hW0⟩ : ∃ W, w.alloc (.cells (kC k) 23) = W := ⟨_, rfl⟩
  have hb0 : Below w.heap.size w W0 := by rw [← hW0]; exact (Below.refl _ _).alloc (Nat.le_refl _) _
  have HB := Lib.hid hb0
  have hg : W0.cell? ⟨g, 0, none⟩ = some (.pointer none) := (hb0.cell (p := ⟨g, 0, none⟩) (World.block_lt_of_cell? w _ h)).trans h
  clear h
  clear hb0
  obtain ⟨db, ro, fm, no⟩ := k
  go_enter Try.func16, Try.ntmps16
  go_wp2_with fail
  refine (CA.given_zero _ g hg).mono ?_
  rintro e w' ⟨rfl, rfl⟩
  go_wp2
  go_ret2
  exact ⟨rfl, HB.out⟩
set_option maxHeartbeats 2000000 in
theorem bytes_nil (w : World) :
    Calls Try.prog 18 #[.pointer none] w fun e w' => e = .returned (.int .i64 0) ∧ Below w.heap.size w w' := by
  go_enter Try.func18, Try.ntmps18
  go_wp2_with fail
  refine (CA.given_nil _).mono ?_
  rintro e w' ⟨rfl, rfl⟩
  go_wp2
  go_ret
  exact ⟨rfl, Below.refl _ _⟩
set_option maxHeartbeats 2000000 in
theorem bytes_zero (w : World) (g : Nat) (h : w.cell? ⟨g, 0, none⟩ = some (.pointer none)) :
    Calls Try.prog 18 #[ptr g] w fun e w' => e = .returned (.int .i64 0) ∧ Below w.heap.size w w' := by
  go_enter Try.func18, Try.ntmps18
  go_wp2_with fail
  refine (CA.given_zero _ g h).mono ?_
  rintro e w' ⟨rfl, rfl⟩
  go_wp2
  go_ret
  exact ⟨rfl, Below.refl _ _⟩
def NoV (w : World) (e : Ending) (w' : World) : Prop := e = .returned (.tuple #[.string ⟨#[]⟩, .bool false]) ∧ Below w.heap.size w w'
set_option maxHeartbeats 2000000 in
theorem get_no {w : World} {r : Value} (k : Ky) (now : Int) (hf : ∀ W, Below w.heap.size w W → Calls Try.prog 37 #[r, kyV k] W (FinC none W)) :
    Calls Try.prog 17 #[r, kyV k, .int .i64 now] w (NoV w) := by
  obtain ⟨kb, hkb⟩ : ∃ b, w.heap.size = b := ⟨_, rfl⟩
  obtain ⟨W0, hW0⟩ : ∃ W, w.alloc (.cells (kC k) 23) = W := ⟨_, rfl⟩
  have hb0 : Below w.heap.size w W0 := by rw [← hW0]; exact (Below.refl _ _).alloc (Nat.le_refl _) _
  have kk : Bk W0 kb 23 (kC k) := by rw [← hW0, ← hkb]; exact Bk.new _ _ _
  have HF := Lib.hid (hf W0 hb0)
  have HB := Lib.hid hb0
  obtain ⟨db, ro, fm, no⟩ := k
  have a0 : W0.cell? ⟨kb, 0, none⟩ = some (.string db) := kk.cell 0
  have a1 : W0.cell? ⟨kb, 1, none⟩ = some (.string ro) := kk.cell 1
  have a2 : W0.cell? ⟨kb, 2, none⟩ = some (.int .i64 fm) := kk.cell 2
  have a3 : W0.cell? ⟨kb, 3, none⟩ = some (.string no) := kk.cell 3
  unfold NoV
  clear hf hb0 kk
  go_enter Try.func17, Try.ntmps17
  go_wp2_with fail
  refine HF.out.mono ?_
  rintro e w2 ⟨rfl, hb2⟩
  have HB := Lib.hid (HB.out.trans (hb2.mono HB.out.size))
  clear hb2 HF hW0 hkb a0 a1 a2 a3
  go_wp2
  go_ret2
  exact ⟨rfl, HB.out.alloc HB.out.size _⟩
theorem get_nil (k : Ky) (now : Int) (w : World) : Calls Try.prog 17 #[.pointer none, kyV k, .int .i64 now] w (NoV w) := get_no k now fun W _ => CA.find_nil k W
theorem get_zero (k : Ky) (now : Int) (w : World) (g : Nat) (h : w.cell? ⟨g, 0, none⟩ = some (.pointer none)) : Calls Try.prog 17 #[ptr g, kyV k, .int .i64 now] w (NoV w) :=
  get_no k now fun W hb => CA.find_zero k W g ((hb.cell (p := ⟨g, 0, none⟩) (World.block_lt_of_cell? w _ h)).trans h)
section
variable {w0 w w' : World} {C : Cb} {N : Nat} {σ : Sg} {O : List Kp}
def kLI (l : List It) : Prop := ∀ y ∈ l, y.1.size ≤ 281474976710656
set_option maxHeartbeats 4000000 in
theorem lc_bytes (h : LC w0 w C N σ O) (z : Int) (hz : sumE σ.T + sumE σ.K = z) :
    Calls Try.prog 18 #[ptr C.g] w (fun e w' => e = .returned (.int .i64 z) ∧ Below w.heap.size w w') := by
  have hf := h.facts
  obtain ⟨c0, c1, c2, c3, c4⟩ := h.cells
  obtain ⟨a, ha⟩ : ∃ a, sumE σ.T = a := ⟨_, rfl⟩
  obtain ⟨b, hb⟩ : ∃ a, sumE σ.K = a := ⟨_, rfl⟩
  have h0 : 0 ≤ a ∧ 0 ≤ b := by
    rw [← ha, ← hb]
    exact ⟨sum_nonneg hf.2.1, sum_nonneg hf.2.2.1⟩
  have hle : a + b ≤ 1073741824 := by rw [← ha, ← hb]; exact hf.2.2.2.2.2.2.2
  have wz : IntKind.i64.wrap (b + a) = z := by rw [← hz, ha, hb, show b + a = a + b by omega]; exact IntWalk.i64_in _ (by omega)
  have H := Lib.hid h
  have HA := Lib.hid ha
  have HB := Lib.hid hb
  clear h hf ha hb hz h0 hle c1 c2 c4
  go_enter Try.func18, Try.ntmps18
  go_wp2_with fail
  refine (CA.given_yes _ _ c0).mono ?_
  rintro e w' ⟨rfl, rfl⟩
  go_wp2_with fail
  refine wp_region_held_drew (S := (fun w' => LC w0 w' C N σ O)) (by kernel_rfl) ?_ (fun hS => ?_)
  · exact H.out.below (Below.refl _ _).drew
  refine tkY 0 ?_ rfl hS ?_ ?_
  rotate_left
  · intro wz hz
    obtain ⟨z0, z1, z2, z3, z4⟩ := hz.cells
    go_simp
    all_goals first | with_reducible rfl | omega
  try simp only [Act.put, pu]
  refine tkY 1 ?_ rfl hS ?_ ?_
  rotate_left
  · intro wz hz
    obtain ⟨z0, z1, z2, z3, z4⟩ := hz.cells
    go_simp
    all_goals first | with_reducible rfl | omega
  try simp only [Act.put, pu]
  refine tkY 2 ?_ rfl hS ?_ ?_
  rotate_left
  · intro wz hz
    obtain ⟨z0, z1, z2, z3, z4⟩ := hz.cells
    go_simp
    all_goals first | with_reducible rfl | omega
  try simp only [Act.put, pu]
  refine tkY 3 ?_ rfl hS ?_ ?_
  rotate_left
  · intro wz hz
    obtain ⟨z0, z1, z2, z3, z4⟩ := hz.cells
    go_simp
    all_goals first | with_reducible rfl | omega
  try simp only [Act.put, pu]
  refine tkY 5 ?_ rfl hS ?_ ?_
  rotate_left
  · intro wz hz
    obtain ⟨z0, z1, z2, z3, z4⟩ := hz.cells
    go_simp
    all_goals first | with_reducible rfl | omega
  try simp only [Act.put, pu]
  refine tkY 6 ?_ rfl hS ?_ ?_
  rotate_left
  · intro wz hz
    obtain ⟨z0, z1, z2, z3, z4⟩ := hz.cells
    go_simp
    all_goals first | with_reducible rfl | omega
  try simp only [Act.put, pu]
  refine tkY 7 ?_ rfl hS ?_ ?_
  rotate_left
  · intro wz hz
    obtain ⟨z0, z1, z2, z3, z4⟩ := hz.cells
    go_simp
    all_goals first | with_reducible rfl | omega
  try simp only [Act.put, pu]
  refine tkY 8 ?_ rfl hS ?_ ?_
  rotate_left
  · intro wz hz
    obtain ⟨z0, z1, z2, z3, z4⟩ := hz.cells
    go_simp
    all_goals first | with_reducible rfl | omega
  try simp only [Act.put, pu]
  refine wpAnyH_ready (rs := [4]) (by kernel_rfl) (by simp) (AllReadyH.cons rfl (fun K' hK' => ?_) AllReadyH.nil)
  go_simp
  have hbd : Below w.heap.size w w.drew := (Below.refl _ _).drew
  refine (lc_sbytesK (H.out.below hbd) b HB.out).mono ?_
  rintro e w4 ⟨rfl, m4, hm4⟩
  have HB4 : Hid (Below w.heap.size w w4) := Lib.hid (by rw [hm4]; exact hbd.trans ((SL.below_drewN _ _ _).mono hbd.size))
  clear hm4 hbd
  refine hK'.out _ _ ?_ (fun hSn => ?_)
  · exact H.out.below HB4.out
  clear hK' K' hS
  have hS := hSn
  clear hSn
  try simp only [Act.put, pu]
  refine wpAnyH_ready (rs := [9]) (by kernel_rfl) (by simp) (AllReadyH.cons rfl (fun K' hK' => ?_) AllReadyH.nil)
  go_simp
  refine (lc_sbytesT (H.out.below HB4.out) a HA.out).mono ?_
  rintro e w5 ⟨rfl, m5, hm5⟩
  have HB5 : Hid (Below w.heap.size w w5) := Lib.hid (by rw [hm5]; exact HB4.out.trans ((SL.below_drewN _ _ _).mono HB4.out.size))
  clear hm5
  refine hK'.out _ _ ?_ (fun hSn => ?_)
  · exact H.out.below HB5.out
  clear hK' K' hS
  have hS := hSn
  clear hSn
  try simp only [Act.put, pu]
  refine tkY 10 ?_ rfl hS ?_ ?_
  rotate_left
  · intro wz hz
    go_simp
    all_goals first | with_reducible rfl | omega
  try simp only [Act.put, pu]
  refine tkY 11 ?_ rfl hS ?_ ?_
  rotate_left
  · intro wz hz
    go_simp
    all_goals first | with_reducible rfl | omega
  try simp only [Act.put, pu]
  refine wpAnyH_done (by kernel_rfl) ?_ _
  clear hS
  go_wp2
  go_ret
  exact ⟨rfl, HB5.out⟩
end
def MadC (ttl : Int) (m s q : Nat) (w : World) (e : Ending) (w' : World) : Prop :=
  ∃ g, e = .returned (ptr g) ∧ Bk w' g 69 #[ptr g, .int .i64 ttl, .map (some m), ptr s, ptr q] ∧ w.heap.size ≤ g ∧ Below w.heap.size w w'
set_option maxHeartbeats 2000000 in
theorem made_any (ttl : Int) (m s q : Nat) (w : World) :
    Calls Try.prog 30 #[.int .i64 ttl, .map (some m), ptr s, ptr q] w (MadC ttl m s q w) := by
  go_enter Try.func30, Try.ntmps30
  go_wp2
  go_ret
  refine ⟨w.heap.size, rfl, ?_, Nat.le_refl _, ?_⟩
  · first | exact (Bk.new w _ _).set_ 0 _ | exact Bk.new w _ _
  · first | exact ((Below.refl _ _).alloc (Nat.le_refl _) _).setCell (p := ⟨w.heap.size, 0, none⟩) (Nat.le_refl _) _ | exact (Below.refl _ _).alloc (Nat.le_refl _) _
def okC (al ke mo ttl : Int) : Prop := okB al ke mo ∧ 1 ≤ ttl ∧ ttl ≤ 549755813888
def emS : Sg := ⟨[], [], [], fun _ => none⟩
def NewC (w0 : World) (al ke mo ttl : Int) (w : World) (e : Ending) (w' : World) : Prop :=
  ∃ C : Cb, e = .returned (.tuple #[ptr C.g, .int .i64 0]) ∧ C.al = al ∧ C.ke = ke ∧ C.mo = mo ∧ C.ttl = ttl ∧ LC w0 w' C 0 emS [] ∧ Below w.heap.size w w' ∧ w.heap.size ≤ C.g
set_option maxHeartbeats 4000000 in
theorem new_yes (w0 w : World) (h0 : Below w0.heap.size w0 w) (al ke mo ttl : Int) (hb : okC al ke mo ttl) : Calls Try.prog 15 #[.int .i64 al, .int .i64 ke, .int .i64 mo, .int .i64 ttl] w (NewC w0 al ke mo ttl w) := by
  have hmm := @run_makeMap Try.prog
  obtain ⟨hb1, hb2, hb3⟩ := hb
  have l1 : ¬ (ttl < 1) := by omega
  have l2 : ¬ ((549755813888 : Int) < ttl) := by omega
  have HC := Lib.hid (SL.new_yes al ke mo w hb1)
  have H0 := Lib.hid h0
  clear hb1 hb2 hb3 h0
  go_enter Try.func15, Try.ntmps15
  go_wp2_with fail
  refine HC.out.mono ?_
  rintro e w1 ⟨s, x, rfl, s1, s2, s3, s4, s5⟩
  have HS1 := Lib.hid s1
  have HS2 : Hid (x.tE = [] ∧ x.kE = [] ∧ (∀ b, x.own s b → w.heap.size ≤ b)) := Lib.hid ⟨s2, s3, s4⟩
  have HB := Lib.hid s5
  clear s1 s2 s3 s4 s5
  go_wp2_with fail
  obtain ⟨W2, hW2⟩ : ∃ W, w1.alloc (.map #[] 0) = W := ⟨_, rfl⟩
  obtain ⟨mb, hmb⟩ : ∃ b, w1.heap.size = b := ⟨_, rfl⟩
  have m2 : MapC W2 mb 0 (fun _ => none) := by rw [← hW2, ← hmb]; exact MapC.made w1
  have b2 : Below w1.heap.size w1 W2 := by rw [← hW2]; exact (Below.refl _ _).alloc (Nat.le_refl _) _
  try rw [hW2]
  try rw [hmb]
  have HM := Lib.hid m2
  have HB2 := Lib.hid (HB.out.trans (b2.mono HB.out.size))
  have HMB : Hid (w.heap.size ≤ mb) := Lib.hid (by rw [← hmb]; exact HB.out.size)
  have HS := Lib.hid (HS1.out.below b2)
  have HSL : Hid (∀ b, x.own s b → b < W2.heap.size) := Lib.hid (fun b hx => Nat.lt_of_lt_of_le (HS1.out.lt hx) b2.size)
  have HML : Hid (mb < W2.heap.size) := Lib.hid m2.lt
  have HXM : Hid (¬ x.own s mb) := Lib.hid (fun hx => by have := HS1.out.lt hx; omega)
  clear m2 b2 hW2 hmb HS1
  refine (EX.new_any W2 w0.heap.size (Nat.le_trans H0.out.size HB2.out.size)).mono ?_
  rintro e w3 ⟨q, y, rfl, q1, q2, q3, q4⟩
  have HQ := Lib.hid q1
  have HQ2 : Hid (y.L = [] ∧ (∀ b, y.own q b → W2.heap.size ≤ b)) := Lib.hid ⟨q2, q3⟩
  have HS := Lib.hid (HS.out.below q4)
  have HM := Lib.hid (HM.out.below q4)
  have HB3 := Lib.hid (HB2.out.trans (q4.mono HB2.out.size))
  have HXY : Hid (∀ b, x.own s b → ¬ y.own q b) := Lib.hid (fun b hx hy => by have := q3 b hy; have := HSL.out b hx; omega)
  have HMY : Hid (¬ y.own q mb) := Lib.hid (fun hy => by have := q3 mb hy; have := HML.out; omega)
  clear q1 q2 q3 q4
  go_wp2_with fail
  refine (CA.made_any ttl mb s q w3).mono ?_
  rintro e w4 ⟨g, rfl, g1, g2, g3⟩
  have HG := Lib.hid g1
  have HG2 := Lib.hid g2
  have HG3 := Lib.hid g3
  clear g1 g2 g3
  go_wp2
  go_ret2
  refine ⟨⟨g, s, q, mb, al, ke, mo, ttl⟩, rfl, rfl, rfl, rfl, rfl, ⟨⟨0, 0, 0, x, y⟩, ?_, ?_, fun p hp => by cases hp⟩, HB3.out.trans (HG3.out.mono HB3.out.size), Nat.le_trans HB3.out.size HG2.out⟩
  · have hs := HS.out.below HG3.out
    have hq := HQ.out.below HG3.out
    have hm := HM.out.below HG3.out
    have hg := HG2.out
    have h0 := H0.out.size
    exact {
      bk := HG.out
      st := hs
      qt := hq
      mp := hm.congr fun k => by
        show none = fV (fun _ => none) k
        unfold fV
        split <;> rfl
      eT := HS2.out.1
      eK := HS2.out.2.1
      eI := by show y.L.map it = []; rw [HQ2.out.1]; rfl
      n1 := Nat.zero_le _
      n2 := Nat.le_refl _
      n3 := Nat.le_refl _
      bg := ⟨Nat.le_trans h0 (Nat.le_trans HB3.out.size hg), Nat.le_trans h0 HMB.out⟩
      bx := fun b hb => Nat.le_trans h0 (HS2.out.2.2 b hb)
      gm := fun e => by have e : g = mb := e; have := HM.out.lt; omega
      gx := fun hx => by have := HS.out.lt hx; have : g < w3.heap.size := this; omega
      gy := fun hy => by have := HQ.out.lt hy; have : g < w3.heap.size := this; omega
      mx := HXM.out
      my := HMY.out
      xy := HXY.out }
  · exact H0.out.trans ((HB3.out.trans (HG3.out.mono HB3.out.size)).mono H0.out.size)
theorem new_no (w : World) (al ke mo ttl : Int) (hb : ¬ okC al ke mo ttl) : Calls Try.prog 15 #[.int .i64 al, .int .i64 ke, .int .i64 mo, .int .i64 ttl] w (fun e w' => e = .returned (.tuple #[.pointer none, .int .i64 1]) ∧ Below w.heap.size w w') := by
  by_cases h1 : okB al ke mo
  · have HC := Lib.hid (SL.new_yes al ke mo w h1)
    have h2 : ttl < 1 ∨ 549755813888 < ttl := by
      by_cases a : ttl < 1
      · exact .inl a
      · right
        by_cases b : ttl ≤ 549755813888
        · exact absurd ⟨h1, by omega, b⟩ hb
        · omega
    clear hb h1
    rcases h2 with l1 | l2
    · go_enter Try.func15, Try.ntmps15
      go_wp2_with fail
      refine HC.out.mono ?_
      rintro e w1 ⟨s, x, rfl, s1, s2, s3, s4, s5⟩
      have HB := Lib.hid s5
      clear s1 s2 s3 s4 s5 HC
      go_wp2
      go_ret2
      exact ⟨rfl, HB.out⟩
    · have l1 : ¬ (ttl < 1) := by omega
      go_enter Try.func15, Try.ntmps15
      go_wp2_with fail
      refine HC.out.mono ?_
      rintro e w1 ⟨s, x, rfl, s1, s2, s3, s4, s5⟩
      have HB := Lib.hid s5
      clear s1 s2 s3 s4 s5 HC
      go_wp2
      go_ret2
      exact ⟨rfl, HB.out⟩
  · go_enter Try.func15, Try.ntmps15
    go_wp2_with fail
    refine (SL.new_no al ke mo w h1).mono ?_
    rintro e w' ⟨rfl, rfl⟩
    go_wp2
    go_ret2
    exact ⟨rfl, Below.refl _ _⟩
end Go.Proofs.Ytjngangojgjceaa.CA
