/- PoolPinned's walk. Conditions: none but the arguments' own sizes. -/
import Derived.Test.YtochjbmighijgaaPqb
namespace Go.Proofs.Ytochjbmighijgaa.PO
open Go.ChangeShapes Go.WideShapes Go.ChangeAt Go.RowKit Go.Maps Go.ChangeMaps
open Go.Proofs.Ytochjbmighijgaa.SL Go.Proofs.Ytochjbmighijgaa.RW
open Go.Proofs.Ytochjbmighijgaa.LN (tkY tkN pu OI IS RdP)
set_option maxRecDepth 100000
set_option linter.unusedVariables false
set_option linter.unusedSimpArgs false

/-- who waits: 1 to i, all till t -/
def pln (t : Int) (i : Nat) : List (Int × Int) := (List.range i).map fun (j : Nat) => (((j + 1 : Nat) : Int), t)
theorem pln_snoc (t : Int) (i : Nat) : pln t (i + 1) = pln t i ++ [(((i + 1 : Nat) : Int), t)] := by
  unfold pln
  rw [List.range_succ, List.map_append]
  rfl
theorem pln_len (t : Int) (i : Nat) : (pln t i).length = i := by unfold pln; rw [List.length_map, List.length_range]
theorem pln_cons (t : Int) (i : Nat) : ∃ l, pln t (i + 1) = (1, t) :: l ∧ l.length = i := by
  unfold pln
  rw [List.range_succ_eq_map, List.map_cons]
  exact ⟨_, rfl, by simp⟩
set_option maxHeartbeats 16000000 in
theorem pinned_any (n now : Int) (hn : 0 ≤ n ∧ n ≤ 255) (hq : 0 ≤ now ∧ now ≤ 65535) (w : World) : Calls Try.prog 6 #[.int .u8 n, .int .u16 now] w (RdP (.bool true) w) := by
  obtain ⟨m, hm⟩ : ∃ m : Nat, 1 + n % 20 = (m : Int) := ⟨(1 + n % 20).toNat, by omega⟩
  have hmr : 1 ≤ m ∧ m ≤ 20 := by omega
  have HMR := Lib.hid hmr
  have HQ := Lib.hid hq
  have wn : IntKind.i64.wrap now = now := IntWalk.i64_in _ (by omega)
  have HM := Lib.hid hm
  have HN0 := Lib.hid hn
  clear hmr hn hm
  go_enter Try.func6, Try.ntmps6
  go_wp2_with fail
  refine (new_yes w 1 50 1073741824 9 (by omega) (by omega) (by omega)).mono ?_
  rintro e w1 ⟨a, rfl, C, hl, c1, c2, c3, c4, hb⟩
  have HC0 : Hid (C.lim = 1 ∧ C.most = 50 ∧ C.wait = 1073741824 ∧ C.idl = 9) := Lib.hid ⟨c1, c2, c3, c4⟩
  have HB := Lib.hid hb
  have HA : Hid (Calls Try.prog 8 #[ptr a, .string ⟨#[103]⟩, nV 0, nV 0] w1 (fun e w9 => ∃ g, SgP w.heap.size w1 a 3 C ⟨#[103]⟩ g ⟨⟨#[103]⟩, 1, [], []⟩ 1 (upd R0.sm 0 (some (g, 1, false))) (.tuple #[loV 0 1 true, .bool true, nV 0]) e w9)) := Lib.hid (sg_open (Sn.start hl) (by omega) (by omega) ⟨#[103]⟩ (by decide) 0 0 (by omega) ⟨by omega, by omega⟩ (by omega) rfl)
  clear hl hb c1 c2 c3 c4
  go_wp2_with fail
  refine HA.out.mono ?_
  rintro e w2 ⟨g, R1, rfl, hg, hsm, hf⟩
  have HB := Lib.hid (HB.out.trans hf.bel)
  have HP : Hid (Calls Try.prog 10 #[ptr a, nV 0] w2 (SgP w.heap.size w2 a 6 C ⟨#[103]⟩ g ⟨⟨#[103]⟩, 1, [], []⟩ 1 (upd R1.sm 0 (some (g, 1, true))) (.bool true))) := Lib.hid (sg_pin hg (by omega) 0 ⟨by omega, by omega⟩ (n := 1) (p := false) (by rw [hsm]; rfl) (by omega))
  have HS1 := Lib.hid hsm
  clear hg hsm hf HA
  go_wp2_with fail
  refine HP.out.mono ?_
  rintro e w3 ⟨R2, rfl, hg, hsm, hf⟩
  have HB := Lib.hid (HB.out.trans hf.bel)
  have HG := Lib.hid hg
  have HS : Hid (R2.sm 0 = some (g, 1, true) ∧ ∀ c, 0 < c → R2.sm c = none) := Lib.hid (by
    rw [hsm, HS1.out]
    refine ⟨rfl, fun c hc => ?_⟩
    rw [upd_ne _ _ (by omega), upd_ne _ _ (by omega)]
    rfl)
  obtain ⟨t0, ht0⟩ : ∃ t : Int, now + 1073741824 = t := ⟨_, rfl⟩
  have HT := Lib.hid ht0
  clear hg hsm hf HP HS1 ht0 hq
  have hn := HN0.out
  have hm := HM.out
  have hmr := HMR.out
  go_wp2
  clear hn hm hmr
  go_loopg [8] m (fun gk u8 wx => ∃ (i N : Nat) (R : Raw), u8 = .int .i64 ((i + 1 : Nat) : Int) ∧ i + gk = m ∧ N ≤ 6 + 6 * i ∧ Hid (Sg w.heap.size wx a N C R ⟨#[103]⟩ g ⟨⟨#[103]⟩, 1, [], pln t0 i⟩ 1) ∧ Hid (R.sm 0 = some (g, 1, true) ∧ ∀ c, (i : Int) < c → R.sm c = none) ∧ Hid (Below w.heap.size w wx))
  case atStart => exact ⟨0, 6, R2, rfl, by omega, by omega, HG, HS, HB⟩
  case round =>
    obtain ⟨i, N, R, rfl, hi, hN, HG, HS, HB⟩ := hrel
    cases gk with
    | succ g1 =>
      have hiN : N ≤ 1000 := by have := HMR.out; omega
      have l1 : ((i + 1 : Nat) : Int) ≤ (m : Int) := by omega
      obtain ⟨x, hx⟩ : ∃ x : Int, Hid (0 = x) := ⟨_, Lib.hid rfl⟩
      obtain ⟨y, hy⟩ : ∃ x : Int, Hid (0 = x) := ⟨_, Lib.hid rfl⟩
      obtain ⟨z, hz⟩ : ∃ x : Bool, Hid (false = x) := ⟨_, Lib.hid rfl⟩
      have HA : Hid (Calls Try.prog 8 #[ptr a, .string ⟨#[103]⟩, nV ((i + 1 : Nat) : Int), nV now] wr (SgP w.heap.size wr a (N + 3) C ⟨#[103]⟩ g ⟨⟨#[103]⟩, 1, [], pln t0 (i + 1)⟩ 1 (upd R.sm ((i + 1 : Nat) : Int) (some (g, 0, false))) (.tuple #[loV x y z, .bool false, nV 0]))) := Lib.hid (by
        have := hx.out; subst this
        have := hy.out; subst this
        have := hz.out; subst this
        obtain ⟨c1, c2, c3, c4⟩ := HC0.out
        exact SgP.cast (sg_wait HG.out (by omega) (by omega) (by decide) ((i + 1 : Nat) : Int) now (by omega) ⟨by omega, by have := HMR.out; omega⟩ (by have := HQ.out; omega) (HS.out.2 _ (by omega)) rfl (by rw [c1]; exact Nat.le_refl _) (by rw [c2]; show (pln t0 i).length < 50; rw [pln_len]; have := HMR.out; omega)) (by rw [pln_snoc, ← HT.out, c3]; rfl))
      obtain ⟨j1, hj1⟩ : ∃ j, i + 1 = j := ⟨_, rfl⟩
      have HJ := Lib.hid hj1
      rw [hj1] at HA l1 ⊢
      obtain ⟨j2, hj2⟩ : ∃ j, j1 + 1 = j := ⟨_, rfl⟩
      have wk : IntKind.i64.wrap ((j1 : Int) + 1) = (j2 : Int) := by rw [show (j1 : Int) + 1 = (j2 : Int) by omega]; exact IntWalk.i64_in _ (by have := HMR.out; omega)
      have HJ2 : Hid (j2 = j1 + 1 ∧ j1 + g1 = m ∧ N + 6 ≤ 6 + 6 * j1) := Lib.hid ⟨by omega, by omega, by omega⟩
      have HNN := Lib.hid hiN
      clear hj1 hj2 hi hN hiN
      go_wp2_with fail
      refine HA.out.mono ?_
      rintro e w4 ⟨R4, rfl, hg, hsm, hf⟩
      have HG4 := Lib.hid hg
      have HB := Lib.hid (HB.out.trans hf.bel)
      have HS4 : Hid (R4.sm 0 = some (g, 1, true) ∧ ∀ c, (j1 : Int) < c → R4.sm c = none) := Lib.hid (by
        rw [hsm]
        refine ⟨?_, fun c hc => ?_⟩
        · rw [upd_ne _ _ (by have := HJ.out; omega)]; exact HS.out.1
        · rw [upd_ne _ _ (by omega)]; exact HS.out.2 c (by have := HJ.out; omega))
      clear hg hsm hf HA
      obtain ⟨W4, hW4⟩ : ∃ W, w4.alloc (.cells #[nV x, nV y, .bool z] 30) = W := ⟨_, rfl⟩
      obtain ⟨b4, hb4⟩ : ∃ b, w4.heap.size = b := ⟨_, rfl⟩
      have HBN : Hid (Below w4.heap.size w4 W4) := Lib.hid (by rw [← hW4]; exact (Below.refl _ _).alloc (Nat.le_refl _) _)
      have HKN : Hid (Bk W4 b4 30 #[nV x, nV y, .bool z]) := Lib.hid (by rw [← hW4, ← hb4]; exact Bk.new _ _ _)
      have HG4 := Lib.hid (HG4.out.below HBN.out)
      have HB := Lib.hid (HB.out.trans (HBN.out.mono HB.out.size))
      clear HBN HKN
      obtain ⟨x1, hx1⟩ : ∃ x : Int, Hid (0 = x) := ⟨_, Lib.hid rfl⟩
      obtain ⟨y1, hy1⟩ : ∃ x : Int, Hid (0 = x) := ⟨_, Lib.hid rfl⟩
      obtain ⟨z1, hz1⟩ : ∃ x : Bool, Hid (false = x) := ⟨_, Lib.hid rfl⟩
      have HV : Hid (Calls Try.prog 9 #[ptr a, nV 0, nV now] W4 (RdP (.tuple #[loV x1 y1 z1, .bool false]) W4)) := Lib.hid (by
        have := hx1.out; subst this
        have := hy1.out; subst this
        have := hz1.out; subst this
        exact give_no HG4.out.pl 0 now ⟨by omega, by omega⟩ (g := g) (n := 1) (p := true) HS4.out.1 (.inr rfl))
      go_wp2_with fail
      try rw [hW4]
      try rw [hb4]
      try clear hW4 hb4
      refine HV.out.mono ?_
      rintro e w5 ⟨rfl, hb⟩
      have HG4 := Lib.hid (HG4.out.below hb)
      have HB := Lib.hid (HB.out.trans (hb.mono HB.out.size))
      clear hb HV
      obtain ⟨W5, hW5⟩ : ∃ W, w5.alloc (.cells #[nV x1, nV y1, .bool z1] 30) = W := ⟨_, rfl⟩
      obtain ⟨b5, hb5⟩ : ∃ b, w5.heap.size = b := ⟨_, rfl⟩
      have HBN : Hid (Below w5.heap.size w5 W5) := Lib.hid (by rw [← hW5]; exact (Below.refl _ _).alloc (Nat.le_refl _) _)
      have HKN : Hid (Bk W5 b5 30 #[nV x1, nV y1, .bool z1]) := Lib.hid (by rw [← hW5, ← hb5]; exact Bk.new _ _ _)
      have HG4 := Lib.hid (HG4.out.below HBN.out)
      have HB := Lib.hid (HB.out.trans (HBN.out.mono HB.out.size))
      clear HBN HKN
      have HH : Hid (Calls Try.prog 16 #[ptr a, nV 0] W5 (RdP (.tuple #[nV 1, .bool true]) W5)) := Lib.hid (by
        have := holds_any HG4.out.pl 0 ⟨by omega, by omega⟩
        rw [HS4.out.1] at this
        exact this)
      go_wp2_with fail
      try rw [hW5]
      try rw [hb5]
      try clear hW5 hb5
      refine HH.out.mono ?_
      rintro e w6 ⟨rfl, hb⟩
      have HG4 := Lib.hid (HG4.out.below hb)
      have HB := Lib.hid (HB.out.trans (hb.mono HB.out.size))
      clear hb HH
      go_wp2
      go_roundg g1
      case measure => exact Nat.lt_succ_self _
      case rel => exact ⟨j1, N + 3, R4, by rw [HJ2.out.1], HJ2.out.2.1, by have := HJ2.out.2.2; omega, HG4, HS4, HB⟩
    | zero =>
      have hie : i = m := by omega
      subst hie
      have l1 : ¬ ((i + 1 : Nat) : Int) ≤ (i : Int) := by omega
      obtain ⟨i0, hi0⟩ : ∃ i0, i = i0 + 1 := ⟨i - 1, by have := HMR.out; omega⟩
      obtain ⟨l, hl1, hl2⟩ := pln_cons t0 i0
      have HL : Hid (Calls Try.prog 12 #[ptr a, nV 0, nV now] wr (SgP w.heap.size wr a (N + 3) C ⟨#[103]⟩ g ⟨⟨#[103]⟩, 1, [], l⟩ 2 (upd (upd R.sm 0 none) 1 (some (g, 2, false))) (.tuple #[nV 1, loV 1 2 true, .bool true]))) := Lib.hid (sg_leave HG.out (by have := HMR.out; omega) (by omega) 0 now ⟨by omega, by omega⟩ (n := 1) (p := true) HS.out.1 (by omega) (x := 1) (t := t0) (l := l) (by show pln t0 i = _; rw [hi0, hl1]) (Nat.le_refl 1))
      have HLL : Hid (l.length = i0) := Lib.hid hl2
      have HI0 := Lib.hid hi0
      have wk2 : IntKind.i64.wrap ((i : Int) - 1) = (i0 : Int) := by rw [show (i : Int) - 1 = (i0 : Int) by omega]; exact IntWalk.i64_in _ (by have := HMR.out; omega)
      clear hi hN hl1 hl2 hi0
      go_wp2_with fail
      refine HL.out.mono ?_
      rintro e w4 ⟨R4, rfl, hg, hsm, hf⟩
      have HG4 := Lib.hid hg
      have HB := Lib.hid (HB.out.trans hf.bel)
      have HS4 := Lib.hid hsm
      clear hg hsm hf HL
      obtain ⟨W4, hW4⟩ : ∃ W, w4.alloc (.cells #[nV 1, nV 2, .bool true] 30) = W := ⟨_, rfl⟩
      obtain ⟨b4, hb4⟩ : ∃ b, w4.heap.size = b := ⟨_, rfl⟩
      have HBN : Hid (Below w4.heap.size w4 W4) := Lib.hid (by rw [← hW4]; exact (Below.refl _ _).alloc (Nat.le_refl _) _)
      have HKN : Hid (Bk W4 b4 30 #[nV 1, nV 2, .bool true]) := Lib.hid (by rw [← hW4, ← hb4]; exact Bk.new _ _ _)
      have HG4 := Lib.hid (HG4.out.below HBN.out)
      have HB := Lib.hid (HB.out.trans (HBN.out.mono HB.out.size))
      have HK := Lib.hid HKN.out
      clear HBN HKN
      have HH : Hid (Calls Try.prog 16 #[ptr a, nV 0] W4 (RdP (.tuple #[nV 0, .bool false]) W4)) := Lib.hid (by
        have := holds_any HG4.out.pl 0 ⟨by omega, by omega⟩
        rw [show R4.sm 0 = none by rw [HS4.out]; rfl] at this
        exact this)
      go_wp2_with fail
      try rw [hW4]
      try rw [hb4]
      try clear hW4 hb4
      refine HH.out.mono ?_
      rintro e w6 ⟨rfl, hb⟩
      have HG4 := Lib.hid (HG4.out.below hb)
      have HB := Lib.hid (HB.out.trans (hb.mono HB.out.size))
      have HK := Lib.hid (Kt.bk (Kt.below hb) HK.out)
      clear hb HH
      have HN : Hid (Calls Try.prog 15 #[ptr a, .string ⟨#[103]⟩] w6 (RdP (.tuple #[nV 1, nV 0, nV (i0 : Int)]) w6)) := Lib.hid (by
        have := sg_count HG4.out (by decide)
        rw [show (⟨⟨#[103]⟩, 1, [], l⟩ : Row).line.length = i0 from HLL.out] at this
        exact this)
      go_wp2_with fail
      refine HN.out.mono ?_
      rintro e w7 ⟨rfl, hb⟩
      have HB := Lib.hid (HB.out.trans (hb.mono HB.out.size))
      have HK := Lib.hid (Kt.bk (Kt.below hb) HK.out)
      clear hb HN
      have he := fun w => eql_loan 1 2 true 1 2 true w
      have k0 := HK.out
      have s0 := k0.cell 0
      have t0' := k0.frozen 0
      have s1 := k0.cell 1
      have t1' := k0.frozen 1
      have s2 := k0.cell 2
      have t2' := k0.frozen 2
      simp at s0 s1 s2
      clear k0
      go_wp2_with fail
      refine (known_any _).mono ?_
      rintro e wz ⟨rfl, hb⟩
      have HB := Lib.hid (HB.out.trans (hb.mono HB.out.size))
      clear hb
      go_wp2
      go_ret
      exact ⟨rfl, HB.out⟩
theorem pinned_law (n now : Int) (w : World) (hn : (Lit.int .u8 n).wf = true) (hq : (Lit.int .u16 now).wf = true) :
    Calls Try.prog 6 #[.int .u8 n, .int .u16 now] w (RdP (.bool true) w) := pinned_any n now (wf8 n hn) (wf16 now hq) w
end Go.Proofs.Ytochjbmighijgaa.PO
