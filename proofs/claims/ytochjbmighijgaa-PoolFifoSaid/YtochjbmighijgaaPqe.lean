/- PoolFifo's walk. Conditions: none but the arguments' own sizes. -/
import Derived.Test.YtochjbmighijgaaPqb
namespace Go.Proofs.Ytochjbmighijgaa.PO
open Go.ChangeShapes Go.WideShapes Go.ChangeAt Go.RowKit Go.Maps Go.ChangeMaps
open Go.Proofs.Ytochjbmighijgaa.SL Go.Proofs.Ytochjbmighijgaa.RW
open Go.Proofs.Ytochjbmighijgaa.LN (tkY tkN pu OI IS RdP)
set_option maxRecDepth 100000
set_option linter.unusedVariables false
set_option linter.unusedSimpArgs false

/-- who waits: 1 to i, each till t and its number -/
def fln (t : Int) (i : Nat) : List (Int × Int) := (List.range i).map fun (j : Nat) => (((j + 1 : Nat) : Int), t + ((j + 1 : Nat) : Int))
theorem fln_snoc (t : Int) (i : Nat) : fln t (i + 1) = fln t i ++ [(((i + 1 : Nat) : Int), t + ((i + 1 : Nat) : Int))] := by
  unfold fln
  rw [List.range_succ, List.map_append]
  rfl
theorem fln_len (t : Int) (i : Nat) : (fln t i).length = i := by unfold fln; rw [List.length_map, List.length_range]
theorem fln_drop (t : Int) {p j : Nat} (h : j < p) : (fln t p).drop j = (((j + 1 : Nat) : Int), t + ((j + 1 : Nat) : Int)) :: (fln t p).drop (j + 1) := by
  have hl : j < (fln t p).length := by rw [fln_len]; exact h
  have e : (fln t p)[j] = (((j + 1 : Nat) : Int), t + ((j + 1 : Nat) : Int)) := by simp [fln]
  rw [List.drop_eq_getElem_cons hl, e]
theorem fln_end (t : Int) (p : Nat) : (fln t p).drop p = [] := List.drop_eq_nil_of_le (by rw [fln_len]; exact Nat.le_refl _)
theorem neq_loan (x y : Int) (z : Bool) (x1 y1 : Int) (z1 : Bool) (w : World) : (binOp .neq 30 (loV x y z) (loV x1 y1 z1)).run Try.prog w = .ok (.bool (!eqL x y z x1 y1 z1)) w := by
  unfold eqL
  cases h1 : (x == x1) <;> cases h2 : (y == y1) <;> cases h3 : (z == z1) <;> go_simp
theorem neq_self (x y : Int) (z : Bool) (w : World) : (binOp .neq 30 (loV x y z) (loV x y z)).run Try.prog w = .ok (.bool false) w := by
  rw [neq_loan, show eqL x y z x y z = true by unfold eqL; simp]
  rfl
def FifoR (B : Nat) (w : World) (a N : Nat) (C : Cf) (t : Int) (i : Nat) : Prop :=
  (i = 0 ∧ ∃ R, Sn B w a N C R 0 ∧ ∀ c, R.sm c = none) ∨ (∃ i' g R, i = i' + 1 ∧ Sg B w a N C R ⟨#[103]⟩ g ⟨⟨#[103]⟩, 1, [], fln t i'⟩ 1 ∧ R.sm 0 = some (g, 1, false) ∧ ∀ c, (i' : Int) < c → R.sm c = none)
theorem FifoR.below {B : Nat} {w w' : World} {a N : Nat} {C : Cf} {t : Int} {i : Nat} (h : FifoR B w a N C t i) (hb : Below w.heap.size w w') : FifoR B w' a N C t i := by
  rcases h with ⟨h1, R, h2, h3⟩ | ⟨i', g, R, h1, h2, h3⟩
  · exact .inl ⟨h1, R, h2.below hb, h3⟩
  · exact .inr ⟨i', g, R, h1, h2.below hb, h3⟩
theorem fifo_first {B : Nat} {w : World} {a N : Nat} {C : Cf} {now : Int} (h : FifoR B w a N C (now + 1073741824) 0) (hq : 0 ≤ now ∧ now ≤ 65535) (hN : N ≤ 900000) :
    Calls Try.prog 8 #[ptr a, .string ⟨#[103]⟩, nV 0, nV now] w fun e w' => e = .returned (.tuple #[loV 0 1 true, .bool true, nV 0]) ∧ FifoR B w' a (N + 3) C (now + 1073741824) 1 ∧ Fr B w w' := by
  rcases h with ⟨_, R, h2, h3⟩ | ⟨i', g, R, h1, _⟩
  · refine (sg_open h2 hN (by omega) ⟨#[103]⟩ (by decide) 0 now (by omega) ⟨by omega, by omega⟩ (by omega) (h3 0)).mono ?_
    rintro e w' ⟨g, R', rfl, hg, hsm, hf⟩
    refine ⟨rfl, .inr ⟨0, g, R', rfl, hg, by rw [hsm]; rfl, fun c hc => ?_⟩, hf⟩
    rw [hsm, upd_ne _ _ (by omega)]
    exact h3 c
  · omega
theorem fifo_ask {B : Nat} {w : World} {a N : Nat} {C : Cf} {now : Int} {i : Nat} (h : FifoR B w a N C (now + 1073741824) i) (hC : C.lim = 1 ∧ C.most = 1000 ∧ C.wait = 1073741824) (hq : 0 ≤ now ∧ now ≤ 65535) (hN : N ≤ 900000) (hi : i ≠ 0) (hi2 : i ≤ 100) :
    Calls Try.prog 8 #[ptr a, .string ⟨#[103]⟩, nV (i : Int), nV (now + (i : Int))] w fun e w' => e = .returned (.tuple #[loV 0 0 false, .bool false, nV 0]) ∧ FifoR B w' a (N + 3) C (now + 1073741824) (i + 1) ∧ Fr B w w' := by
  obtain ⟨c1, c2, c3⟩ := hC
  rcases h with ⟨h1, _⟩ | ⟨i', g, R, rfl, hg, h0, hs⟩
  · exact absurd h1 hi
  · refine (sg_wait hg hN (by omega) (by decide) ((i' + 1 : Nat) : Int) (now + ((i' + 1 : Nat) : Int)) (by omega) ⟨by omega, by omega⟩ (by omega) (hs _ (by omega)) rfl (by rw [c1]; exact Nat.le_refl _) (by rw [c2]; show (fln _ i').length < 1000; rw [fln_len]; omega)).mono ?_
    rintro e w' ⟨R', rfl, hg', hsm, hf⟩
    refine ⟨rfl, .inr ⟨i' + 1, g, R', rfl, ?_, ?_, fun c hc => ?_⟩, hf⟩
    · have e1 : ({ name := ⟨#[103]⟩, conns := 1, idle := [], line := fln (now + 1073741824) i' ++ [(((i' + 1 : Nat) : Int), now + ((i' + 1 : Nat) : Int) + (C.wait : Int))] } : Row) = ⟨⟨#[103]⟩, 1, [], fln (now + 1073741824) (i' + 1)⟩ := by
        rw [fln_snoc, c3]
        congr 4
        omega
      rw [← e1]
      exact hg'
    · rw [hsm, upd_ne _ _ (by omega)]; exact h0
    · rw [hsm, upd_ne _ _ (by omega)]; exact hs c (by omega)
set_option maxHeartbeats 16000000 in
theorem fifo_any (n now : Int) (hn : 0 ≤ n ∧ n ≤ 255) (hq : 0 ≤ now ∧ now ≤ 65535) (w : World) : Calls Try.prog 4 #[.int .u8 n, .int .u16 now] w (RdP (.bool true) w) := by
  obtain ⟨m, hm⟩ : ∃ m : Nat, 2 + n % 40 = (m : Int) := ⟨(2 + n % 40).toNat, by omega⟩
  have hmr : 2 ≤ m ∧ m ≤ 41 := by omega
  have HMR := Lib.hid hmr
  have HQ := Lib.hid hq
  have wn : IntKind.i64.wrap now = now := IntWalk.i64_in _ (by omega)
  go_enter Try.func4, Try.ntmps4
  go_wp2_with fail
  clear hn hm hmr hq
  refine (new_yes w 1 1000 1073741824 9 (by omega) (by omega) (by omega)).mono ?_
  rintro e w1 ⟨a, rfl, C, hl, c1, c2, c3, c4, hb⟩
  have HC0 : Hid (C.lim = 1 ∧ C.most = 1000 ∧ C.wait = 1073741824) := Lib.hid ⟨c1, c2, c3⟩
  have HB := Lib.hid hb
  have HR : Hid (FifoR w.heap.size w1 a 0 C (now + 1073741824) 0) := Lib.hid (.inl ⟨rfl, R0, Sn.start hl, fun c => rfl⟩)
  clear hl hb c1 c2 c3 c4
  go_wp2
  go_loopg [8] m (fun gk u8 wx => ∃ (i N : Nat), u8 = .int .i64 (i : Int) ∧ i + gk = m ∧ N ≤ 3 * i ∧ Hid (FifoR w.heap.size wx a N C (now + 1073741824) i) ∧ Hid (Below w.heap.size w wx))
  case atStart => exact ⟨0, 0, rfl, by omega, by omega, HR, HB⟩
  case round =>
    obtain ⟨i, N, rfl, hi, hN, HR, HB⟩ := hrel
    cases gk with
    | succ g1 =>
      by_cases hi0 : i = 0
      · subst hi0
        have l1 : (0 : Int) < (m : Int) := by omega
        obtain ⟨z, hz⟩ : ∃ x : Int, Hid (0 = x) := ⟨_, Lib.hid rfl⟩
        have HA : Hid (Calls Try.prog 8 #[ptr a, .string ⟨#[103]⟩, nV 0, nV now] wr (fun e w' => e = .returned (.tuple #[loV z 1 true, .bool true, nV 0]) ∧ FifoR w.heap.size w' a (N + 3) C (now + 1073741824) 1 ∧ Fr w.heap.size wr w')) := Lib.hid (by
          have := hz.out; subst this
          exact fifo_first HR.out HQ.out (by omega))
        rw [show ((0 : Nat) : Int) = (0 : Int) from rfl]
        have wn0 : IntKind.i64.wrap (now + 0) = now := by rw [Int.add_zero]; exact wn
        have HI : Hid (1 + g1 = m ∧ N + 3 ≤ 3 * 1) := Lib.hid ⟨by omega, by omega⟩
        clear hi hN
        go_wp2_with fail
        refine HA.out.mono ?_
        rintro e w4 ⟨rfl, hr, hf⟩
        have HR := Lib.hid hr
        have HB := Lib.hid (HB.out.trans hf.bel)
        clear hr hf HA
        obtain ⟨W4, hW4⟩ : ∃ W, w4.alloc (.cells #[nV z, nV 1, .bool true] 30) = W := ⟨_, rfl⟩
        obtain ⟨b4, hb4⟩ : ∃ b, w4.heap.size = b := ⟨_, rfl⟩
        have HBN : Hid (Below w4.heap.size w4 W4) := Lib.hid (by rw [← hW4]; exact (Below.refl _ _).alloc (Nat.le_refl _) _)
        have HKN : Hid (Bk W4 b4 30 #[nV z, nV 1, .bool true]) := Lib.hid (by rw [← hW4, ← hb4]; exact Bk.new _ _ _)
        have HR := Lib.hid (HR.out.below HBN.out)
        have HB := Lib.hid (HB.out.trans (HBN.out.mono HB.out.size))
        clear HBN HKN
        go_wp2_with fail
        try rw [hW4]
        try rw [hb4]
        try clear hW4 hb4
        go_wp2
        go_roundg g1
        case measure => exact Nat.lt_succ_self _
        case rel => exact ⟨1, N + 3, rfl, HI.out.1, HI.out.2, HR, HB⟩
      · have l0 : ¬ ((i : Int) = 0) := by omega
        have l1 : (i : Int) < (m : Int) := by omega
        obtain ⟨x, hx⟩ : ∃ x : Int, Hid (0 = x) := ⟨_, Lib.hid rfl⟩
        obtain ⟨y, hy⟩ : ∃ x : Int, Hid (0 = x) := ⟨_, Lib.hid rfl⟩
        obtain ⟨z, hz⟩ : ∃ x : Bool, Hid (false = x) := ⟨_, Lib.hid rfl⟩
        obtain ⟨ni, hni⟩ : ∃ x : Int, now + (i : Int) = x := ⟨_, rfl⟩
        obtain ⟨i1, hi1⟩ : ∃ j, i + 1 = j := ⟨_, rfl⟩
        have HA : Hid (Calls Try.prog 8 #[ptr a, .string ⟨#[103]⟩, nV (i : Int), nV ni] wr (fun e w' => e = .returned (.tuple #[loV x y z, .bool false, nV 0]) ∧ FifoR w.heap.size w' a (N + 3) C (now + 1073741824) i1 ∧ Fr w.heap.size wr w')) := Lib.hid (by
          have := hx.out; subst this
          have := hy.out; subst this
          have := hz.out; subst this
          rw [← hni, ← hi1]
          exact fifo_ask HR.out HC0.out HQ.out (by have := HMR.out; omega) hi0 (by have := HMR.out; omega))
        have wn0 : IntKind.i64.wrap (now + (i : Int)) = ni := by rw [hni]; exact IntWalk.i64_in _ (by have := HQ.out; have := HMR.out; omega)
        have wk : IntKind.i64.wrap ((i : Int) + 1) = (i1 : Int) := by rw [show (i : Int) + 1 = (i1 : Int) by omega]; exact IntWalk.i64_in _ (by have := HMR.out; omega)
        have HI : Hid (i1 + g1 = m ∧ N + 3 ≤ 3 * i1) := Lib.hid ⟨by omega, by omega⟩
        clear hi hN hi0 hni hi1
        go_wp2_with fail
        refine HA.out.mono ?_
        rintro e w4 ⟨rfl, hr, hf⟩
        have HR := Lib.hid hr
        have HB := Lib.hid (HB.out.trans hf.bel)
        clear hr hf HA
        obtain ⟨W4, hW4⟩ : ∃ W, w4.alloc (.cells #[nV x, nV y, .bool z] 30) = W := ⟨_, rfl⟩
        obtain ⟨b4, hb4⟩ : ∃ b, w4.heap.size = b := ⟨_, rfl⟩
        have HBN : Hid (Below w4.heap.size w4 W4) := Lib.hid (by rw [← hW4]; exact (Below.refl _ _).alloc (Nat.le_refl _) _)
        have HKN : Hid (Bk W4 b4 30 #[nV x, nV y, .bool z]) := Lib.hid (by rw [← hW4, ← hb4]; exact Bk.new _ _ _)
        have HR := Lib.hid (HR.out.below HBN.out)
        have HB := Lib.hid (HB.out.trans (HBN.out.mono HB.out.size))
        clear HBN HKN
        go_wp2_with fail
        try rw [hW4]
        try rw [hb4]
        try clear hW4 hb4
        go_wp2
        go_roundg g1
        case measure => exact Nat.lt_succ_self _
        case rel => exact ⟨i1, N + 3, rfl, HI.out.1, HI.out.2, HR, HB⟩
    | zero =>
      have hie : i = m := by omega
      subst hie
      have l1 : ¬ (i : Int) < (i : Int) := by omega
      obtain ⟨p, g, R, hp, HG, hs0, _⟩ : ∃ p g R, i = p + 1 ∧ Hid (Sg w.heap.size wr a N C R ⟨#[103]⟩ g ⟨⟨#[103]⟩, 1, [], fln (now + 1073741824) p⟩ 1) ∧ R.sm 0 = some (g, 1, false) ∧ True := by
        rcases HR.out with ⟨h1, _⟩ | ⟨p, g, R, h1, h2, h3, _⟩
        · have := HMR.out; omega
        · exact ⟨p, g, R, h1, Lib.hid h2, h3, trivial⟩
      have HP := Lib.hid hp
      have HS := Lib.hid hs0
      have HNM : Hid (N ≤ 200) := Lib.hid (by have := HMR.out; omega)
      obtain ⟨T, hT⟩ : ∃ t : Int, now + 1073741824 = t := ⟨_, rfl⟩
      rw [hT] at HG
      obtain ⟨nh, hnh⟩ : ∃ x : Int, now + 100 = x := ⟨_, rfl⟩
      have wnh : IntKind.i64.wrap (now + 100) = nh := by rw [hnh]; exact IntWalk.i64_in _ (by have := HQ.out; omega)
      clear hi hN hp hs0 hT hnh HR
      go_wp2
      go_loopg [12] p (fun gk u12 wx => ∃ (j N2 : Nat) (R2 : Raw), u12 = .int .i64 (j : Int) ∧ j + gk = p ∧ N2 ≤ 200 + 3 * j ∧ Hid (Sg w.heap.size wx a N2 C R2 ⟨#[103]⟩ g ⟨⟨#[103]⟩, 1, [], (fln T p).drop j⟩ 1) ∧ Hid (R2.sm (j : Int) = some (g, 1, false)) ∧ Hid (Below w.heap.size w wx))
      case atStart => exact ⟨0, N, R, rfl, by omega, HNM.out, HG, HS, HB⟩
      case round =>
        obtain ⟨j, N2, R2, rfl, hj, hN2, HR, HS2, HB⟩ := hrel
        obtain ⟨j1, hj1⟩ : ∃ k, j + 1 = k := ⟨_, rfl⟩
        have hjm : j1 ≤ 41 := by have := HMR.out; have := HP.out; omega
        have wk3 : IntKind.i64.wrap ((j : Int) + 1) = (j1 : Int) := by rw [show (j : Int) + 1 = (j1 : Int) by omega]; exact IntWalk.i64_in _ (by omega)
        cases gk with
        | succ g1 =>
          have l3 : (j1 : Int) < (i : Int) := by have := HP.out; omega
          obtain ⟨z, hz⟩ : ∃ x : Bool, Hid (false = x) := ⟨_, Lib.hid rfl⟩
          have HA : Hid (Calls Try.prog 9 #[ptr a, nV (j : Int), nV nh] wr (SgP w.heap.size wr a (N2 + 3) C ⟨#[103]⟩ g ⟨⟨#[103]⟩, 1, [], (fln T p).drop j1⟩ 1 (upd (upd R2.sm (j : Int) none) (j1 : Int) (some (g, 1, false))) (.tuple #[loV (j1 : Int) 1 z, .bool true]))) := Lib.hid (by
            have := hz.out; subst this
            rw [← hj1]
            exact sg_next HR.out (by omega) (by omega) (j : Int) nh ⟨by omega, by omega⟩ (n := 1) HS2.out (by omega) (x := ((j + 1 : Nat) : Int)) (t := T + ((j + 1 : Nat) : Int)) (l := (fln T p).drop (j + 1)) (fln_drop T (by omega)))
          have he : ∀ w, (binOp .neq 30 (loV (j1 : Int) 1 z) (loV (j1 : Int) 1 false)).run Try.prog w = .ok (.bool false) w := by
            have := hz.out; subst this
            exact fun w => neq_self _ _ _ w
          have HI : Hid (j1 + g1 = p ∧ N2 + 3 ≤ 200 + 3 * j1 ∧ j1 ≤ 41) := Lib.hid ⟨by omega, by omega, hjm⟩
          clear hj hN2 hj1 hjm
          go_wp2_with fail
          refine HA.out.mono ?_
          rintro e w4 ⟨R4, rfl, hg, hsm, hf⟩
          have HR := Lib.hid hg
          have HB := Lib.hid (HB.out.trans hf.bel)
          have HS4 : Hid (R4.sm (j1 : Int) = some (g, 1, false)) := Lib.hid (by rw [hsm, upd_at])
          clear hg hsm hf HA
          obtain ⟨W4, hW4⟩ : ∃ W, w4.alloc (.cells #[nV (j1 : Int), nV 1, .bool z] 30) = W := ⟨_, rfl⟩
          obtain ⟨b4, hb4⟩ : ∃ b, w4.heap.size = b := ⟨_, rfl⟩
          have HBN : Hid (Below w4.heap.size w4 W4) := Lib.hid (by rw [← hW4]; exact (Below.refl _ _).alloc (Nat.le_refl _) _)
          have HKN : Hid (Bk W4 b4 30 #[nV (j1 : Int), nV 1, .bool z]) := Lib.hid (by rw [← hW4, ← hb4]; exact Bk.new _ _ _)
          have HR := Lib.hid (HR.out.below HBN.out)
          have HB := Lib.hid (HB.out.trans (HBN.out.mono HB.out.size))
          have HH : Hid (Calls Try.prog 16 #[ptr a, nV (j1 : Int)] W4 (RdP (.tuple #[nV 1, .bool true]) W4)) := Lib.hid (by
            have := holds_any HR.out.pl (j1 : Int) ⟨by omega, by have := HI.out; omega⟩
            rw [HS4.out] at this
            exact this)
          have HK := Lib.hid HKN.out
          clear HBN HKN
          go_wp2_with fail
          try rw [hW4]
          try rw [hb4]
          try clear hW4 hb4
          refine HH.out.mono ?_
          rintro e w6 ⟨rfl, hb⟩
          have HR := Lib.hid (HR.out.below hb)
          have HB := Lib.hid (HB.out.trans (hb.mono HB.out.size))
          have HK := Lib.hid (Kt.bk (Kt.below hb) HK.out)
          have k0 := HK.out
          have s0 := k0.cell 0
          have t0' := k0.frozen 0
          have s1 := k0.cell 1
          have t1' := k0.frozen 1
          have s2 := k0.cell 2
          have t2' := k0.frozen 2
          simp at s0 s1 s2
          clear k0 hb HH
          go_wp2
          go_roundg g1
          case measure => exact Nat.lt_succ_self _
          case rel => exact ⟨j1, N2 + 3, R4, rfl, HI.out.1, HI.out.2.1, HR, HS4, HB⟩
        | zero =>
          have hje : j = p := by omega
          subst hje
          have l3 : ¬ (j1 : Int) < (i : Int) := by have := HP.out; omega
          have wk4 : IntKind.i64.wrap ((i : Int) - 1) = (j : Int) := by rw [show (i : Int) - 1 = (j : Int) by have := HP.out; omega]; exact IntWalk.i64_in _ (by omega)
          obtain ⟨x, hx⟩ : ∃ x : Int, Hid (0 = x) := ⟨_, Lib.hid rfl⟩
          obtain ⟨y, hy⟩ : ∃ x : Int, Hid (0 = x) := ⟨_, Lib.hid rfl⟩
          obtain ⟨z, hz⟩ : ∃ x : Bool, Hid (false = x) := ⟨_, Lib.hid rfl⟩
          have HA : Hid (Calls Try.prog 9 #[ptr a, nV (j : Int), nV nh] wr (SgP w.heap.size wr a (N2 + 3) C ⟨#[103]⟩ g ⟨⟨#[103]⟩, 1, [(nh, 1)], []⟩ 1 (upd R2.sm (j : Int) none) (.tuple #[loV x y z, .bool false]))) := Lib.hid (by
            have := hx.out; subst this
            have := hy.out; subst this
            have := hz.out; subst this
            exact SgP.cast (sg_idle HR.out (by omega) (by omega) (j : Int) nh ⟨by omega, by omega⟩ (n := 1) HS2.out (by omega) (fln_end T j)) (by rw [fln_end]; rfl))
          clear hj hN2 hj1 hjm
          go_wp2_with fail
          refine HA.out.mono ?_
          rintro e w4 ⟨R4, rfl, hg, hsm, hf⟩
          have HR := Lib.hid hg
          have HB := Lib.hid (HB.out.trans hf.bel)
          clear hg hsm hf HA
          obtain ⟨W4, hW4⟩ : ∃ W, w4.alloc (.cells #[nV x, nV y, .bool z] 30) = W := ⟨_, rfl⟩
          obtain ⟨b4, hb4⟩ : ∃ b, w4.heap.size = b := ⟨_, rfl⟩
          have HBN : Hid (Below w4.heap.size w4 W4) := Lib.hid (by rw [← hW4]; exact (Below.refl _ _).alloc (Nat.le_refl _) _)
          have HKN : Hid (Bk W4 b4 30 #[nV x, nV y, .bool z]) := Lib.hid (by rw [← hW4, ← hb4]; exact Bk.new _ _ _)
          have HR := Lib.hid (HR.out.below HBN.out)
          have HB := Lib.hid (HB.out.trans (HBN.out.mono HB.out.size))
          have HN : Hid (Calls Try.prog 15 #[ptr a, .string ⟨#[103]⟩] W4 (RdP (.tuple #[nV 1, nV 1, nV 0]) W4)) := Lib.hid (sg_count HR.out (by decide))
          clear HBN HKN
          go_wp2_with fail
          try rw [hW4]
          try rw [hb4]
          try clear hW4 hb4
          refine HN.out.mono ?_
          rintro e w7 ⟨rfl, hb⟩
          have HB := Lib.hid (HB.out.trans (hb.mono HB.out.size))
          clear hb HN
          go_wp2_with fail
          refine (known_any _).mono ?_
          rintro e wz ⟨rfl, hb⟩
          have HB := Lib.hid (HB.out.trans (hb.mono HB.out.size))
          clear hb
          go_wp2
          go_ret
          exact ⟨rfl, HB.out⟩
theorem fifo_law (n now : Int) (w : World) (hn : (Lit.int .u8 n).wf = true) (hq : (Lit.int .u16 now).wf = true) :
    Calls Try.prog 4 #[.int .u8 n, .int .u16 now] w (RdP (.bool true) w) := fifo_any n now (wf8 n hn) (wf16 now hq) w
end Go.Proofs.Ytochjbmighijgaa.PO
