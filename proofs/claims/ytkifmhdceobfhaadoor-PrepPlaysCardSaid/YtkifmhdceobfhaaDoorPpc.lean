/- Package prep, its code: copies of texts, names, put and drop. Conditions: sizes. -/
import Derived.Test.YtkifmhdceobfhaaDoorPpb
import Derived.Test.YtkifmhdceobfhaaDoorShelf
import Derived.Shelf.SlMaps.Clone
namespace Go.Proofs.YtkifmhdceobfhaaDoor.PP
open Go.ChangeShapes Go.WideShapes Go.ChangeAt Go.RowKit Go.Maps Go.ChangeMaps
open Go.Proofs.YtkifmhdceobfhaaDoor.SL
set_option maxRecDepth 100000
set_option linter.unusedVariables false
set_option linter.unusedSimpArgs false

theorem clone_any (s : ByteArray) (w : World) (hs : s.size ≤ 281474976710656) :
    Calls Tryd.prog 29 #[.string s] w fun e w' => e = .returned (.string s) ∧ Below w.heap.size w w' := by
  have c := fun w => Tryd.stringslite_Clone s w (by omega)
  go_enter Tryd.func29, Tryd.ntmps29
  go_wp2_with (go_at_call 39; refine (c _).mono ?_; rintro e w' ⟨rfl, hb⟩)
  go_ret
  exact ⟨rfl, hb⟩
theorem format_any (k : Nat) (h : k < 100) (w : World) : Calls Tryd.prog 45 #[nV (k : Int), nV 10] w fun e w' => e = .returned (.string ⟨(Lib.decDigits k).toArray⟩) ∧ w = w' := by
  have c := fun w => Tryd.internal_strconv_small k h w
  have l0 : (0 : Int) ≤ (k : Int) := by omega
  have l1 : (k : Int) < 100 := by omega
  generalize Lib.decDigits k = L at *
  have HC := Lib.hid c
  clear c h
  go_enter Tryd.func45, Tryd.ntmps45
  go_wp2_with (go_at_call 46; refine (HC.out _).mono ?_; rintro e w' ⟨rfl, rfl⟩)
  go_ret
  exact ⟨rfl, rfl⟩
theorem itoa1_any (k : Nat) (h : k < 100) (w : World) : Calls Tryd.prog 44 #[nV (k : Int)] w fun e w' => e = .returned (.string ⟨(Lib.decDigits k).toArray⟩) ∧ w = w' := by
  have c := fun w => format_any k h w
  have wk : IntKind.i64.wrap (k : Int) = (k : Int) := IntWalk.i64_in _ (by omega)
  generalize Lib.decDigits k = L at *
  have HC := Lib.hid c
  clear c h
  go_enter Tryd.func44, Tryd.ntmps44
  go_wp2_with (go_at_call 45; refine (HC.out _).mono ?_; rintro e w' ⟨rfl, rfl⟩)
  go_ret
  exact ⟨rfl, rfl⟩
theorem itoa_any (k : Nat) (h : k < 100) (w : World) : Calls Tryd.prog 40 #[nV (k : Int)] w fun e w' => e = .returned (.string ⟨(Lib.decDigits k).toArray⟩) ∧ w = w' := by
  have c := fun w => itoa1_any k h w
  generalize Lib.decDigits k = L at *
  have HC := Lib.hid c
  clear c h
  go_enter Tryd.func40, Tryd.ntmps40
  go_wp2_with (go_at_call 44; refine (HC.out _).mono ?_; rintro e w' ⟨rfl, rfl⟩)
  go_ret
  exact ⟨rfl, rfl⟩
theorem cat_nm (L : List UInt8) : (⟨#[115]⟩ : ByteArray) ++ ⟨L.toArray⟩ = ⟨(115 :: L).toArray⟩ := MV.ba_of (by simp)
theorem name_any (k : Nat) (h : k < 100) (w : World) : Calls Tryd.prog 33 #[nV (k : Int)] w fun e w' => e = .returned (.string (nm k)) ∧ w = w' := by
  have c := fun w => itoa_any k h w
  unfold nm
  have hl : (Lib.decDigits k).length ≤ 20 := by rw [Lib.decDigits_length]; exact Lib.nDigits_le20 k (by omega)
  generalize Lib.decDigits k = L at *
  have hcat := cat_nm L
  have HC := Lib.hid c
  clear c h
  go_enter Tryd.func33, Tryd.ntmps33
  go_wp2_with (go_at_call 40; refine (HC.out _).mono ?_; rintro e w' ⟨rfl, rfl⟩)
  go_ret
  refine ⟨?_, rfl⟩
  rw [← hcat]
  rfl
theorem bk_nmap {w : World} {b g n : Nat} {t : TypeId} {cs : Array Value} {P : Program} {K : TypeId} {f : Lit → Option Value} (h : Bk w g t cs) (hm : MV.MapV P K w b n f) : g ≠ b := by
  rintro rfl
  obtain ⟨es, clock, hb⟩ := hm.obj
  unfold Bk at h
  rw [h] at hb
  cases hb
/-- what a step makes of a map of maps: it turns what it owns, and makes memory -/
def HeldP (K : TypeId) (h N : Nat) (F : Int → Option Nat) (cnt : Int → Nat) (g : Int → Lit → Option Value) (w w' : World) : Prop :=
  ∃ F', Held K w' h N F' cnt g ∧ Chg (Own F h) w w' ∧ ∀ b, Own F' h b → Own F h b ∨ w.heap.size ≤ b
theorem eql_nils (w : World) : (binOp .eql 58 (.map none) (.map none)).run Tryd.prog w = .ok (.bool true) w := run_eql_map_nil_sl (P := Tryd.prog) w 58 _ _ none Tryd.underlying58
theorem eql_maps (w : World) (b : Nat) : (binOp .eql 58 (.map (some b)) (.map none)).run Tryd.prog w = .ok (.bool false) w := run_eql_map_nil_sl (P := Tryd.prog) w 58 _ _ (some b) Tryd.underlying58
theorem eql_nili (w : World) : (binOp .eql 65 (.map none) (.map none)).run Tryd.prog w = .ok (.bool true) w := run_eql_map_nil_sl (P := Tryd.prog) w 65 _ _ none Tryd.underlying65
theorem eql_mapi (w : World) (b : Nat) : (binOp .eql 65 (.map (some b)) (.map none)).run Tryd.prog w = .ok (.bool false) w := run_eql_map_nil_sl (P := Tryd.prog) w 65 _ _ (some b) Tryd.underlying65
open Classical
section
variable {w : World} {h N : Nat} {F : Int → Option Nat} {cnt : Int → Nat} {g : Int → Lit → Option Value}
theorem zo_s (w : World) : (zeroValue 58).run Tryd.prog w = .ok (.map none) w := zero_of _ _ (by kernel_rfl) w
set_option maxHeartbeats 4000000 in
theorem put_s (H : Held 9 w h N F cnt g) (c : Int) (hI : I9 c) (k : Tx) (hk : k.size ≤ 281474976710656) (s : Tx) (hN : N ≤ 1000000) (hn : cnt c ≤ 1000000) :
    Calls Tryd.prog 28 #[mpV h, nV c, .string k, .agg #[.string s]] w fun e w' => e = .returned (.tuple #[]) ∧ HeldP 9 h (N + 1) F (upd cnt c (if (g c (.string k.data.toList)).isSome = true then cnt c else cnt c + 1)) (upd g c (fun x => if x = .string k.data.toList then some (.agg #[.string s]) else g c x)) w w' := by
  obtain ⟨cn, hcn⟩ : ∃ x, upd cnt c (if (g c (.string k.data.toList)).isSome = true then cnt c else cnt c + 1) = x := ⟨_, rfl⟩
  obtain ⟨gn, hgn⟩ : ∃ x, upd g c (fun x => if x = .string k.data.toList then some (.agg #[.string s]) else g c x) = x := ⟨_, rfl⟩
  rw [hcn, hgn]
  obtain ⟨W0, hW0⟩ : ∃ W, w.alloc (.cells #[.string s] 56) = W := ⟨_, rfl⟩
  obtain ⟨q, hq⟩ : ∃ b, w.heap.size = b := ⟨_, rfl⟩
  have hb0 : Below w.heap.size w W0 := by rw [← hW0]; exact (Below.refl _ _).alloc (Nat.le_refl _) _
  have hk0 : Bk W0 q 56 #[.string s] := by rw [← hW0, ← hq]; exact Bk.new _ _ _
  have H0 := H.below hb0
  have hO := H0.out Tryd.underlying47 (zo_s W0) c hI
  have hnil := fun w => PP.eql_nils w
  cases hF : F c with
  | some b =>
    obtain ⟨W1, hr1, H1, hc1⟩ := H0.put strK Tryd.underlying58 hF (by unfold maxLen; omega) (keyB k hk) (.agg #[.string s])
    rw [hF] at hO
    have hne := fun w => PP.eql_maps w b
    have x0 : W0.cell? ⟨q, 0, none⟩ = some (.string s) := hk0.cell 0
    have HH : Hid (HeldP 9 h (N + 1) F cn gn w W1) := Lib.hid (by rw [← hcn, ← hgn]; exact ⟨F, H1.mono (Nat.le_succ N), ((Chg.of_below hb0).trans' (hc1) fun x _ e => .inr ⟨c, by rw [hF, e]⟩), fun x hx => .inl hx⟩)
    clear H H0 H1 hc1 hb0 hF hcn hgn hN hn hI hk hk0
    unfold mO at hO
    go_enter Tryd.func28, Tryd.ntmps28
    go_wp2_with fail
    try rw [hq]
    try rw [hW0]
    clear hq hW0
    go_end0
    exact ⟨rfl, HH.out⟩
  | none =>
    obtain ⟨W2, hr2, H2, hc2⟩ := H0.opened Tryd.underlying47 hI hF (by unfold maxLen; omega)
    obtain ⟨b, hbb⟩ : ∃ b, W0.heap.size = b := ⟨_, rfl⟩
    obtain ⟨W1, hW1⟩ : ∃ W, W0.alloc (.map #[] 0) = W := ⟨_, rfl⟩
    rw [hbb, hW1] at hr2
    rw [hbb] at H2
    have hF2 : upd F c (some b) c = some b := upd_at _ _ _
    have hO2 := H2.out Tryd.underlying47 (zo_s W2) c hI
    rw [hF2] at hO2
    obtain ⟨W3, hr3, H3, hc3⟩ := H2.put strK Tryd.underlying58 hF2 (by unfold maxLen; omega) (keyB k hk) (.agg #[.string s])
    have hk2 : Bk W2 q 56 #[.string s] := Bk.heap hk0 (hc2.block q hk0.lt (bk_nmap hk0 H0.mo))
    have x0 : W2.cell? ⟨q, 0, none⟩ = some (.string s) := hk2.cell 0
    have HH : Hid (HeldP 9 h (N + 1) F cn gn w W3) := Lib.hid (by
      rw [← hcn, ← hgn]
      have hs : W0.heap.size ≤ b := by omega
      have hs0 := hb0.size
      refine ⟨_, H3, (((Chg.of_below hb0).trans' hc2 fun x _ e => .inl e).trans' hc3 fun x hx e => ?_), fun x hx => ?_⟩
      · omega
      · rcases hx with hx | ⟨y, hy⟩
        · exact .inl (.inl hx)
        · by_cases e : y = c
          · subst e
            rw [upd_at] at hy
            injection hy with hy
            exact .inr (by omega)
          · rw [upd_ne _ _ e] at hy
            exact .inl (.inr ⟨y, hy⟩))
    rw [hF] at hO
    have hmm := @run_makeMap Tryd.prog
    clear H H0 H2 H3 hc2 hc3 hb0 hF hF2 hcn hgn hN hn hI hk hk0 hk2
    unfold mO at hO hO2
    go_enter Tryd.func28, Tryd.ntmps28
    go_wp2_with fail
    try rw [hq]
    try rw [hW0]
    clear hq hW0
    try rw [hbb]
    try rw [hW1]
    clear hbb hW1
    go_wp2_with fail
    go_end0
    exact ⟨rfl, HH.out⟩
set_option maxHeartbeats 4000000 in
theorem drop_s (H : Held 9 w h N F cnt g) (c : Int) (hI : I9 c) :
    Calls Tryd.prog 30 #[mpV h, nV c] w fun e w' => e = .returned (nV (cnt c : Int)) ∧ HeldP 9 h N F (upd cnt c 0) (upd g c (fun _ => none)) w w' := by
  have hO := H.out Tryd.underlying47 (zo_s w) c hI
  have hL := fun ty => H.len Tryd.underlying58 c ty
  obtain ⟨W1, hr1, H1, hc1⟩ := H.drop Tryd.underlying47 hI 0
  have HH : Hid (HeldP 9 h N F (upd cnt c 0) (upd g c (fun _ => none)) w W1) := Lib.hid ⟨_, H1, hc1.mono fun x _ e => .inl e, fun x hx => by
    rcases hx with hx | ⟨y, hy⟩
    · exact .inl (.inl hx)
    · by_cases e : y = c
      · subst e; rw [upd_at] at hy; cases hy
      · rw [upd_ne _ _ e] at hy; exact .inl (.inr ⟨y, hy⟩)⟩
  generalize cnt c = n at *
  generalize F c = o at *
  clear H H1 hc1 hI
  unfold mO at hO hL
  go_enter Tryd.func30, Tryd.ntmps30
  go_wp2_with fail
  go_ret
  exact ⟨rfl, HH.out⟩
theorem zo_i (w : World) : (zeroValue 65).run Tryd.prog w = .ok (.map none) w := zero_of _ _ (by kernel_rfl) w
set_option maxHeartbeats 4000000 in
theorem put_i (H : Held 3 w h N F cnt g) (c : Int) (hI : I9 c) (k : Int) (hk : I9 k) (s : Int) (hN : N ≤ 1000000) (hn : cnt c ≤ 1000000) :
    Calls Tryd.prog 32 #[mpV h, nV c, nV k, nV s] w fun e w' => e = .returned (.tuple #[]) ∧ HeldP 3 h (N + 1) F (upd cnt c (if (g c (.int .i64 k)).isSome = true then cnt c else cnt c + 1)) (upd g c (fun x => if x = .int .i64 k then some (nV s) else g c x)) w w' := by
  obtain ⟨cn, hcn⟩ : ∃ x, upd cnt c (if (g c (.int .i64 k)).isSome = true then cnt c else cnt c + 1) = x := ⟨_, rfl⟩
  obtain ⟨gn, hgn⟩ : ∃ x, upd g c (fun x => if x = .int .i64 k then some (nV s) else g c x) = x := ⟨_, rfl⟩
  rw [hcn, hgn]
  obtain ⟨W0, hW0⟩ : ∃ W, w = W := ⟨_, rfl⟩
  have hb0 : Below w.heap.size w W0 := by rw [← hW0]; exact Below.refl _ _
  have H0 := H.below hb0
  have hO := H0.out Tryd.underlying49 (zo_i W0) c hI
  have hnil := fun w => PP.eql_nili w
  cases hF : F c with
  | some b =>
    obtain ⟨W1, hr1, H1, hc1⟩ := H0.put iK Tryd.underlying65 hF (by unfold maxLen; omega) (keyI k hk) (nV s)
    rw [hF] at hO
    have hne := fun w => PP.eql_mapi w b
    have HH : Hid (HeldP 3 h (N + 1) F cn gn w W1) := Lib.hid (by rw [← hcn, ← hgn]; exact ⟨F, H1.mono (Nat.le_succ N), ((Chg.of_below hb0).trans' (hc1) fun x _ e => .inr ⟨c, by rw [hF, e]⟩), fun x hx => .inl hx⟩)
    clear H H0 H1 hc1 hb0 hF hcn hgn hN hn hI hk
    unfold mO at hO
    subst hW0
    go_enter Tryd.func32, Tryd.ntmps32
    go_wp2_with fail
    go_end0
    exact ⟨rfl, HH.out⟩
  | none =>
    obtain ⟨W2, hr2, H2, hc2⟩ := H0.opened Tryd.underlying49 hI hF (by unfold maxLen; omega)
    obtain ⟨b, hbb⟩ : ∃ b, W0.heap.size = b := ⟨_, rfl⟩
    obtain ⟨W1, hW1⟩ : ∃ W, W0.alloc (.map #[] 0) = W := ⟨_, rfl⟩
    rw [hbb, hW1] at hr2
    rw [hbb] at H2
    have hF2 : upd F c (some b) c = some b := upd_at _ _ _
    have hO2 := H2.out Tryd.underlying49 (zo_i W2) c hI
    rw [hF2] at hO2
    obtain ⟨W3, hr3, H3, hc3⟩ := H2.put iK Tryd.underlying65 hF2 (by unfold maxLen; omega) (keyI k hk) (nV s)
    have HH : Hid (HeldP 3 h (N + 1) F cn gn w W3) := Lib.hid (by
      rw [← hcn, ← hgn]
      have hs : W0.heap.size ≤ b := by omega
      have hs0 := hb0.size
      refine ⟨_, H3, (((Chg.of_below hb0).trans' hc2 fun x _ e => .inl e).trans' hc3 fun x hx e => ?_), fun x hx => ?_⟩
      · omega
      · rcases hx with hx | ⟨y, hy⟩
        · exact .inl (.inl hx)
        · by_cases e : y = c
          · subst e
            rw [upd_at] at hy
            injection hy with hy
            exact .inr (by omega)
          · rw [upd_ne _ _ e] at hy
            exact .inl (.inr ⟨y, hy⟩))
    rw [hF] at hO
    have hmm := @run_makeMap Tryd.prog
    clear H H0 H2 H3 hc2 hc3 hb0 hF hF2 hcn hgn hN hn hI hk
    unfold mO at hO hO2
    subst hW0
    go_enter Tryd.func32, Tryd.ntmps32
    go_wp2_with fail
    try rw [hbb]
    try rw [hW1]
    clear hbb hW1
    go_wp2_with fail
    go_end0
    exact ⟨rfl, HH.out⟩
set_option maxHeartbeats 4000000 in
theorem drop_i (H : Held 3 w h N F cnt g) (c : Int) (hI : I9 c) :
    Calls Tryd.prog 35 #[mpV h, nV c] w fun e w' => e = .returned (nV (cnt c : Int)) ∧ HeldP 3 h N F (upd cnt c 0) (upd g c (fun _ => none)) w w' := by
  have hO := H.out Tryd.underlying49 (zo_i w) c hI
  have hL := fun ty => H.len Tryd.underlying65 c ty
  obtain ⟨W1, hr1, H1, hc1⟩ := H.drop Tryd.underlying49 hI 0
  have HH : Hid (HeldP 3 h N F (upd cnt c 0) (upd g c (fun _ => none)) w W1) := Lib.hid ⟨_, H1, hc1.mono fun x _ e => .inl e, fun x hx => by
    rcases hx with hx | ⟨y, hy⟩
    · exact .inl (.inl hx)
    · by_cases e : y = c
      · subst e; rw [upd_at] at hy; cases hy
      · rw [upd_ne _ _ e] at hy; exact .inl (.inr ⟨y, hy⟩)⟩
  generalize cnt c = n at *
  generalize F c = o at *
  clear H H1 hc1 hI
  unfold mO at hO hL
  go_enter Tryd.func35, Tryd.ntmps35
  go_wp2_with fail
  go_ret
  exact ⟨rfl, HH.out⟩
end
end Go.Proofs.YtkifmhdceobfhaaDoor.PP
