/- SessSkips' walk. Condition: what is laid. -/
import Derived.Test.YtpnjjllkbnmakaaDoorSyg
import Derived.Deep.LoopGhost
namespace Go.Proofs.YtpnjjllkbnmakaaDoor.SE
open Go.ChangeShapes Go.WideShapes Go.ChangeAt Go.RowKit
open Go.Proofs.YtpnjjllkbnmakaaDoor.SL
set_option maxRecDepth 100000
set_option linter.unusedVariables false
set_option linter.unusedSimpArgs false

theorem ls_fai2 {W w : World} {a : Nat} {S : St} (h : LS W w a S) (S' : St) (x : Int) (hS : faiS S = S') (hx : faiE S = x) : Calls Tryd.prog 15 #[ptr a] w fun e w' => e = .returned (nV x) ∧ LS W w' a S' ∧ Chg (fun b => b = a) w w' := by
  subst hS hx; exact ls_fai h
theorem ls_don2 {W w : World} {a : Nat} {S : St} (h : LS W w a S) (S' : St) (x : Int) (hS : donS S = S') (hx : donE S = x) : Calls Tryd.prog 13 #[ptr a] w fun e w' => e = .returned (nV x) ∧ LS W w' a S' ∧ Chg (fun b => b = a) w w' := by
  subst hS hx; exact ls_don h
theorem ls_phase {W w : World} {a : Nat} {S : St} (h : LS W w a S) (x : Int) (hx : (S.p : Int) = x) : Calls Tryd.prog 18 #[ptr a] w fun e w' => e = .returned (nV x) ∧ w = w' := by
  subst hx; exact phase_any h.2.2
abbrev kindsT : Tx := ⟨#[80, 66, 68, 69, 67, 72, 81]⟩
/-- the kinds that the law asks -/
def Kn (k : Int) : Prop := k = 80 ∨ k = 66 ∨ k = 68 ∨ k = 69 ∨ k = 67 ∨ k = 72 ∨ k = 81
theorem kinds_at (j : Nat) (hj : j < 7) : ∃ kk : Int, Kn kk ∧ ∀ w, (Instr.index 9 (.string kindsT) (nV (j : Int))).run Tryd.prog w = .ok (.int .u8 kk) w := by
  have key : ∀ (i : Nat) (hi : i < 7) (kk : Int), ((kindsT.data.toList[i]?).map fun b : UInt8 => (b.toNat : Int)) = some kk → ∀ w, (Instr.index 9 (.string kindsT) (nV (i : Int))).run Tryd.prog w = .ok (.int .u8 kk) w := by
    intro i hi kk h w
    match i, hi with
    | 0, _ => injection h with h; subst h; simp [Instr.index, run_underlying Tryd.underlying9]; rfl
    | 1, _ => injection h with h; subst h; simp [Instr.index, run_underlying Tryd.underlying9]; rfl
    | 2, _ => injection h with h; subst h; simp [Instr.index, run_underlying Tryd.underlying9]; rfl
    | 3, _ => injection h with h; subst h; simp [Instr.index, run_underlying Tryd.underlying9]; rfl
    | 4, _ => injection h with h; subst h; simp [Instr.index, run_underlying Tryd.underlying9]; rfl
    | 5, _ => injection h with h; subst h; simp [Instr.index, run_underlying Tryd.underlying9]; rfl
    | 6, _ => injection h with h; subst h; simp [Instr.index, run_underlying Tryd.underlying9]; rfl
  match j, hj with
  | 0, h => exact ⟨80, .inl rfl, key 0 h _ rfl⟩
  | 1, h => exact ⟨66, .inr (.inl rfl), key 1 h _ rfl⟩
  | 2, h => exact ⟨68, .inr (.inr (.inl rfl)), key 2 h _ rfl⟩
  | 3, h => exact ⟨69, .inr (.inr (.inr (.inl rfl))), key 3 h _ rfl⟩
  | 4, h => exact ⟨67, .inr (.inr (.inr (.inr (.inl rfl)))), key 4 h _ rfl⟩
  | 5, h => exact ⟨72, .inr (.inr (.inr (.inr (.inr (.inl rfl))))), key 5 h _ rfl⟩
  | 6, h => exact ⟨81, .inr (.inr (.inr (.inr (.inr (.inr rfl))))), key 6 h _ rfl⟩
theorem kn5 {k : Int} (h : Kn k) : stepS ⟨5, uT, uT⟩ (kA k) = ⟨5, uT, uT⟩ ∧ stepD ⟨5, uT, uT⟩ (kA k) = 7 ∧ stepE ⟨5, uT, uT⟩ (kA k) = 0 := by
  rcases h with rfl | rfl | rfl | rfl | rfl | rfl | rfl <;> exact ⟨rfl, rfl, rfl⟩
theorem kn3 {k : Int} (h : Kn k) : stepS ⟨3, uT, uT⟩ (kA k) = ⟨3, uT, uT⟩ ∧ stepD ⟨3, uT, uT⟩ (kA k) = 6 ∧ stepE ⟨3, uT, uT⟩ (kA k) = 0 := by
  rcases h with rfl | rfl | rfl | rfl | rfl | rfl | rfl <;> exact ⟨rfl, rfl, rfl⟩
set_option maxHeartbeats 8000000 in
theorem skips_law (v : Value) (W : World) (hf : FitsU8 W v) (hW : LW W) :
    Calls Tryd.prog 5 #[v] W fun e w' => e = .returned (.bool true) ∧ Below W.heap.size W w' := by
  obtain ⟨l, hl⟩ := hf
  have hx := hl
  obtain ⟨A, cp, rfl⟩ := hl.form
  have HW := Lib.hid hW
  have HX := Lib.hid hx
  have HR := Lib.hid (ready_any W hW)
  obtain ⟨N, hN⟩ : ∃ N, l.length = N := ⟨_, rfl⟩
  have HN := Lib.hid hN
  rw [hN]
  clear hx hl hW hN
  by_cases hbig : 60 < N
  · have l1 : (60 : Int) < (N : Int) := by omega
    clear hbig HX HN
    go_enter Tryd.func5, Tryd.ntmps5
    go_wp2_with fail
    refine HR.out.mono ?_
    rintro e w1 ⟨a, rfl, h1⟩
    have H := Lib.hid h1
    clear h1 HR
    go_wp2_with fail
    refine (known_any w1 (HW.out.below H.out.1)).mono ?_
    rintro e w2 ⟨rfl, hb⟩
    have HF : Hid (Below W.heap.size W w2) := Lib.hid (H.out.1.trans (hb.mono H.out.1.size))
    clear hb
    go_wp2
    go_ret
    exact ⟨rfl, HF.out⟩
  · have l1 : ¬ (60 : Int) < (N : Int) := by omega
    go_enter Tryd.func5, Tryd.ntmps5
    go_wp2_with fail
    refine HR.out.mono ?_
    rintro e w1 ⟨a, rfl, h1⟩
    have H := Lib.hid h1
    clear h1 HR
    go_wp2_with fail
    refine (ls_kind HW.out H.out 80 ⟨4, uT, uT⟩ 4 0 rfl rfl rfl).mono ?_
    rintro e w2 ⟨rfl, hs, _⟩
    have H := Lib.hid hs
    clear hs
    go_wp2_with fail
    refine (ls_fai2 H.out ⟨5, uT, uT⟩ 0 rfl rfl).mono ?_
    rintro e w3 ⟨rfl, hs, _⟩
    have H : Hid (LS W w3 a ⟨5, uT, uT⟩) := Lib.hid hs
    clear hs
    go_wp2_with fail
    go_loopg [6] N (fun g u6 wx => ∃ k : Nat, u6 = nV (k : Int) ∧ k + g = N ∧ Hid (LS W wx a ⟨5, uT, uT⟩))
    case atStart => exact ⟨0, rfl, by omega, H⟩
    case round =>
      obtain ⟨k, rfl, hk, H⟩ := hrel
      cases gk with
      | zero =>
        have m1 : ¬ ((k : Int) < (N : Int)) := by omega
        clear hk hbig
        go_wp2_with fail
        refine (ls_kind HW.out H.out 83 ⟨2, uT, uT⟩ 5 0 rfl rfl rfl).mono ?_
        rintro e w21 ⟨rfl, hs, _⟩
        have H := Lib.hid hs
        clear hs
        go_wp2_with fail
        refine (ls_phase H.out 2 rfl).mono ?_
        rintro e wx ⟨rfl, rfl⟩
        go_wp2_with fail
        refine (ls_kind HW.out H.out 81 ⟨3, uT, uT⟩ 3 0 rfl rfl rfl).mono ?_
        rintro e w22 ⟨rfl, hs, _⟩
        have H := Lib.hid hs
        clear hs
        go_wp2_with fail
        go_loopg [12] N (fun g u12 wx => ∃ k : Nat, u12 = nV (k : Int) ∧ k + g = N ∧ Hid (LS W wx a ⟨3, uT, uT⟩))
        case atStart => exact ⟨0, rfl, by omega, H⟩
        case round =>
          obtain ⟨k, rfl, hk, H⟩ := hrel
          cases gk with
          | zero =>
            have m1 : ¬ ((k : Int) < (N : Int)) := by omega
            clear hk HX HN
            go_wp2_with fail
            refine (ls_don2 H.out ⟨2, uT, uT⟩ 0 rfl rfl).mono ?_
            rintro e w31 ⟨rfl, hs, _⟩
            have H : Hid (LS W w31 a ⟨2, uT, uT⟩) := Lib.hid hs
            clear hs
            go_wp2_with fail
            refine (ls_phase H.out 2 rfl).mono ?_
            rintro e wx ⟨rfl, rfl⟩
            go_wp2_with fail
            refine (known_any _ (HW.out.below H.out.1)).mono ?_
            rintro e w32 ⟨rfl, hb⟩
            have HF : Hid (Below W.heap.size W w32) := Lib.hid (H.out.1.trans (hb.mono H.out.1.size))
            clear hb
            go_wp2
            go_ret
            exact ⟨rfl, HF.out⟩
          | succ g =>
            have hlt : k < N := by omega
            have hlt2 : k < l.length := by have := HN.out; omega
            obtain ⟨b1, o1, q1, he1, hc1, hx1⟩ := HX.out.inv (by omega)
            rw [HN.out] at he1 hc1
            injection he1 with f1 _ f3
            subst f1 f3
            obtain ⟨x, hxe⟩ : ∃ x, l[k]? = some x := ⟨_, List.getElem?_eq_getElem hlt2⟩
            obtain ⟨⟨hx0, hx255⟩, y0⟩ := hx1 k x hxe
            have y1 := (H.out.1.cell (p := ⟨b1, o1 + k, none⟩) (World.block_lt_of_cell? W _ y0)).trans y0
            have m0 : (0 : Int) ≤ (k : Int) := by omega
            have m1 : (k : Int) < (N : Int) := by omega
            have wx : IntKind.i64.wrap x = x := IntWalk.i64_in _ (by omega)
            obtain ⟨j, hj⟩ : ∃ j : Nat, x.tmod 7 = (j : Int) := ⟨(x.tmod 7).toNat, by have := Int.tmod_nonneg 7 hx0; omega⟩
            have hj7 : j < 7 := by have := Int.tmod_lt_of_pos x (show (0 : Int) < 7 by omega); omega
            obtain ⟨kk, hkk, hbyte⟩ : ∃ kk : Int, Kn kk ∧ ∀ w, (Instr.index 9 (.string kindsT) (nV (j : Int))).run Tryd.prog w = .ok (.int .u8 kk) w := kinds_at j hj7
            obtain ⟨k1, hk1⟩ : ∃ k1, k + 1 = k1 := ⟨_, rfl⟩
            have wk : IntKind.i64.wrap ((k : Int) + 1) = (k1 : Int) := by rw [show (k : Int) + 1 = (k1 : Int) by omega]; exact IntWalk.i64_in _ (by omega)
            have HK1 := Lib.hid hk1
            have HKN := Lib.hid hkk
            clear hx1 hxe hc1 hk1 hkk y0
            go_wp2_with fail
            refine (ls_kind HW.out H.out kk ⟨3, uT, uT⟩ 6 0 (kn3 HKN.out).1 (kn3 HKN.out).2.1 (kn3 HKN.out).2.2).mono ?_
            rintro e w30 ⟨rfl, hs, _⟩
            have H := Lib.hid hs
            clear hs
            go_wp2_with fail
            refine (ls_phase H.out 3 rfl).mono ?_
            rintro e wx ⟨rfl, rfl⟩
            go_wp2
            go_roundg g
            case measure => exact Nat.lt_succ_self _
            case rel => exact ⟨k1, rfl, by have := HK1.out; omega, H⟩
      | succ g =>
        have hlt : k < N := by omega
        have hlt2 : k < l.length := by have := HN.out; omega
        obtain ⟨b1, o1, q1, he1, hc1, hx1⟩ := HX.out.inv (by omega)
        rw [HN.out] at he1 hc1
        injection he1 with f1 _ f3
        subst f1 f3
        obtain ⟨x, hxe⟩ : ∃ x, l[k]? = some x := ⟨_, List.getElem?_eq_getElem hlt2⟩
        obtain ⟨⟨hx0, hx255⟩, y0⟩ := hx1 k x hxe
        have y1 := (H.out.1.cell (p := ⟨b1, o1 + k, none⟩) (World.block_lt_of_cell? W _ y0)).trans y0
        have m0 : (0 : Int) ≤ (k : Int) := by omega
        have m1 : (k : Int) < (N : Int) := by omega
        have wx : IntKind.i64.wrap x = x := IntWalk.i64_in _ (by omega)
        obtain ⟨j, hj⟩ : ∃ j : Nat, x.tmod 7 = (j : Int) := ⟨(x.tmod 7).toNat, by have := Int.tmod_nonneg 7 hx0; omega⟩
        have hj7 : j < 7 := by have := Int.tmod_lt_of_pos x (show (0 : Int) < 7 by omega); omega
        obtain ⟨kk, hkk, hbyte⟩ : ∃ kk : Int, Kn kk ∧ ∀ w, (Instr.index 9 (.string kindsT) (nV (j : Int))).run Tryd.prog w = .ok (.int .u8 kk) w := kinds_at j hj7
        obtain ⟨k1, hk1⟩ : ∃ k1, k + 1 = k1 := ⟨_, rfl⟩
        have wk : IntKind.i64.wrap ((k : Int) + 1) = (k1 : Int) := by rw [show (k : Int) + 1 = (k1 : Int) by omega]; exact IntWalk.i64_in _ (by omega)
        have HK1 := Lib.hid hk1
        have HKN := Lib.hid hkk
        clear hx1 hxe hc1 hk1 hkk y0
        go_wp2_with fail
        refine (ls_kind HW.out H.out kk ⟨5, uT, uT⟩ 7 0 (kn5 HKN.out).1 (kn5 HKN.out).2.1 (kn5 HKN.out).2.2).mono ?_
        rintro e w20 ⟨rfl, hs, _⟩
        have H := Lib.hid hs
        clear hs
        go_wp2_with fail
        refine (ls_phase H.out 5 rfl).mono ?_
        rintro e wx ⟨rfl, rfl⟩
        go_wp2
        go_roundg g
        case measure => exact Nat.lt_succ_self _
        case rel => exact ⟨k1, rfl, by have := HK1.out; omega, H⟩
end Go.Proofs.YtpnjjllkbnmakaaDoor.SE
