/- FrameFeeds (layer 2): for every list of texts, fed one by one, the law returns true and its arguments read as before: the messages that are whole, what waits, and what is wrong, are as the document says; a copy goes its own way. No condition but the form's own reach. -/
import Derived.Test.YthajnfmbgmmncaaFrq
import Derived.Deep.RegionHeld3
import Derived.SliceStrings
import Derived.SizedLaws
import Derived.ChangeOld
import Derived.Carry
namespace Go.Proofs.Ythajnfmbgmmncaa.frameFeeds
open Go.ChangeShapes Go.WideShapes Go.ChangeAt Go.RowKit
open Go.ChangeMaps (open_string shut_string)
set_option linter.unusedVariables false
set_option linter.unusedSimpArgs false

/-- v is a slice of texts that reads as ss -/
def SR (w : World) (v : Value) (ss : List ByteArray) : Prop :=
  (∃ A cap, v = .slice A 0 cap ∧ ss = []) ∨
  ∃ h off cap, v = .slice (some ⟨h, off, none⟩) ss.length cap ∧ ss.length ≤ cap ∧ ∀ (i : Nat) (s : ByteArray), ss[i]? = some s → w.cell? ⟨h, off + i, none⟩ = some (.string s)
def Fits (w : World) (v : Value) : Prop := ∃ ss : List ByteArray, SR w v ss
theorem opened {H : Type} {enc : TypeId × Value → H} {W : World} {base : Nat} {v : Value} {d : DataW H} {p : List MemPlace} (hv : Value.okWide Try.prog W .any base 22 v)
    (h : DataW.Trod enc Try.prog W 0 (fun _ => true) true 22 v d p) (hz : (DataW.weights Try.prog 22 d).all (· ≤ reachBytes) = true) : Fits W v := by
  obtain ⟨a, ln, cp, rfl⟩ := okWide_slice Try.underlying22 hv
  obtain ⟨fuel, hf⟩ := h
  rcases open_strings Try.underlying22 Try.underlying9 (by kernel_rfl) hf with ⟨e, _⟩ | ⟨ad, len, cap, ss, hcs, hb, hl, hm, hsl, hx, hcell, _⟩
  · simp [Value.cells] at e
    obtain ⟨rfl, rfl, rfl⟩ := e
    exact ⟨[], .inl ⟨_, _, rfl, rfl⟩⟩
  · simp [Value.cells] at hcs
    obtain ⟨rfl, rfl, rfl⟩ := hcs
    simp at hsl
    have hlen : (ss.take ln).length = ln := by rw [List.length_take]; omega
    refine ⟨ss.take ln, ?_⟩
    by_cases h0 : ln = 0
    · subst h0
      exact .inl ⟨_, _, rfl, by simp⟩
    · have c0 := hcell 0 (by omega)
      have hsp : ad.spot = none := by
        have hc : (W.cell? (ad.add 0)).isSome = true := by rw [c0]; rfl
        have e : ad.add 0 = ad := by simp [Addr.add]
        rw [e] at hc
        unfold World.cell? at hc
        cases hs : ad.spot with
        | none => rfl
        | some q => rw [hs] at hc; revert hc; split <;> simp
      obtain ⟨bl, of, sp⟩ := ad
      simp only at hsp
      subst hsp
      refine .inr ⟨bl, of, cp, by rw [hlen], by omega, fun i s hi => ?_⟩
      have hlt := (List.getElem?_eq_some_iff.1 hi).1
      rw [hlen] at hlt
      have := hcell i (by omega)
      rw [Addr.add_lit] at this
      rw [this]
      rw [List.getElem?_take, if_pos hlt] at hi
      rw [List.getD_eq_getElem?_getD, hi]; rfl
theorem sr_cell {w : World} {h off cap : Nat} {ss : List ByteArray} (hm : SR w (.slice (some ⟨h, off, none⟩) ss.length cap) ss) (k : Nat) (hk : k < ss.length) : w.cell? ⟨h, off + k, none⟩ = some (.string ss[k]) := by
  rcases hm with ⟨_, _, _, e⟩ | ⟨h', off', cap', e, _, hc⟩
  · subst e; simp at hk
  · injection e with e1 e2 e3
    injection e1 with e1
    injection e1 with e4 e5
    subst e4 e5
    exact hc k ss[k] (List.getElem?_eq_getElem hk)
theorem RRd.below {w w' : World} {g : Nat} {l : List UInt8} {f : Bool} {x : Int} (h : RRd w g l f x) (hb : Below w.heap.size w w') : RRd w' g l f x := Blk.below h hb (Blk.lt h)
theorem RRd.other {w w' : World} {g g2 : Nat} {l : List UInt8} {f : Bool} {x : Int} (h : RRd w g l f x) (hne : g ≠ g2) (hg : w.grownBy w' (some g2)) : RRd w' g l f x := Blk.grown h hg (by simpa using hne)

theorem stays {w1 w3 wa wb : World} {x y : Value} (hlt : w1.heap.size < w3.heap.size) (h : wa.cell? ⟨w1.heap.size, 0, none⟩ = some x ∧ wa.cell? ⟨w1.heap.size, 2, none⟩ = some y ∧ Below w3.heap.size w3 wa) (hb : Below wa.heap.size wa wb) :
    wb.cell? ⟨w1.heap.size, 0, none⟩ = some x ∧ wb.cell? ⟨w1.heap.size, 2, none⟩ = some y ∧ Below w3.heap.size w3 wb :=
  have hlt2 : w1.heap.size < wa.heap.size := Nat.lt_of_lt_of_le hlt h.2.2.size
  ⟨((bcell hb).1 _ 0 hlt2).trans h.1, ((bcell hb).1 _ 2 hlt2).trans h.2.1, h.2.2.trans (hb.mono h.2.2.size)⟩

/-- the law's loop: piece k is next; both readers stand alike -/
def Rel (w0 : World) (gb n : Nat) (av i : Value) (wr : World) : Prop :=
  ∃ k ga l f x, k ≤ n ∧ i = .int .i64 (k : Nat) ∧ av = .pointer (some ⟨ga, 0, none⟩) ∧ w0.heap.size ≤ ga ∧ ga ≠ gb ∧ Rd wr ga l f x ∧ RRd wr gb l f x ∧ l.length ≤ k * 5000 ∧ Below w0.heap.size w0 wr

theorem rfeed_out (g : Nat) (s : ByteArray) (w : World) (l : List UInt8) (f : Bool) (x : Int) (h : RRd w g l f x) (hl : l.length + s.size ≤ 1099511627776) :
    Calls Try.prog 12 #[.pointer (some ⟨g, 0, none⟩), .string s] w fun e w' => ∃ v, e = .returned (.tuple #[v, .int .i64 (fed l f x s.data.toList).2.2.2]) ∧ Msgs w' w.heap.size v (fed l f x s.data.toList).1 ∧ RRd w' g (fed l f x s.data.toList).2.1 (fed l f x s.data.toList).2.2.1 (fed l f x s.data.toList).2.2.2 ∧ w.grownBy w' (some g) :=
  rfeed_any g s w l f x h hl
/-- what both readers tell of a text -/
theorem fed_parts (l : List UInt8) (f : Bool) (x : Int) (s : List UInt8) : ∃ ms l2 f2 x2, fed l f x s = (ms, l2, f2, x2) ∧ ms.length ≤ l.length + s.length ∧ l2.length ≤ l.length + s.length :=
  ⟨_, _, _, _, rfl, (fed_few l f x s).1, (fed_few l f x s).2⟩
theorem feed_out2 (g : Nat) (s : ByteArray) (w : World) (l : List UInt8) (f : Bool) (x : Int) (ms : List Msg) (l2 : List UInt8) (f2 : Bool) (x2 : Int) (h : RRd w g l f x) (hl : l.length + s.size ≤ 1099511627776) (e : fed l f x s.data.toList = (ms, l2, f2, x2)) :
    Calls Try.prog 12 #[.pointer (some ⟨g, 0, none⟩), .string s] w fun e w' => ∃ v, e = .returned (.tuple #[v, .int .i64 x2]) ∧ Msgs w' w.heap.size v ms ∧ RRd w' g l2 f2 x2 ∧ w.grownBy w' (some g) := by
  have := rfeed_out g s w l f x h hl
  rw [e] at this
  exact this

set_option maxHeartbeats 2000000 in
set_option maxRecDepth 100000 in
theorem walk_nil (first : Bool) (A : Option Addr) (cap : Nat) (cut : Int) (w : World) :
    Calls Try.prog 3 #[.bool first, .slice A 0 cap, .int .u8 cut] w fun e w' => e = .returned (.bool true) ∧ Below w.heap.size w w' := by
  go_enter Try.func3, Try.ntmps3
  go_wp2_with fail
  refine (new_any _ _).mono ?_; rintro e w1 ⟨g, rfl, hg, hR, hB⟩
  go_wp2
  go_loop [7, 9] (fun a i => i = .int .i64 0) (fun _ _ => 0)
  case atStart => rfl
  case round =>
    subst hrel
    go_wp2_with (go_at_call 8; refine (known_any _).mono ?_; rintro e w5 ⟨rfl, hb⟩)
    go_ret
    exact ⟨rfl, hB.trans ((bel hb).mono hB.size)⟩

set_option maxHeartbeats 2000000 in
set_option maxRecDepth 100000 in
theorem walk_some (first : Bool) (h off cap : Nat) (ss : List ByteArray) (cut : Int) (hcut : 0 ≤ cut ∧ cut < 256) (w : World) (hm : SR w (.slice (some ⟨h, off, none⟩) ss.length cap) ss) (hpos : 0 < ss.length) :
    Calls Try.prog 3 #[.bool first, .slice (some ⟨h, off, none⟩) ss.length cap, .int .u8 cut] w fun e w' => e = .returned (.bool true) ∧ Below w.heap.size w w' := by
  obtain ⟨hc0, hc1⟩ := hcut
  by_cases hl : 30 < ss.length
  · clear hm
    go_enter Try.func3, Try.ntmps3
    go_wp2_with (go_at_call 8; refine (known_any _).mono ?_; rintro e w5 ⟨rfl, hb⟩)
    go_ret
    exact ⟨rfl, hb⟩
  · have hl2 : ss.length ≤ 30 := by omega
    clear hl
    have hh : h < w.heap.size := World.block_lt_of_cell? w _ (sr_cell hm 0 hpos)
    go_enter Try.func3, Try.ntmps3
    go_wp2_with fail
    refine (new_any _ _).mono ?_; rintro e w1 ⟨g, rfl, hg, hR, hB⟩
    have hg1 := hR.lt
    go_wp2
    go_loopw [7, 9] (Rel w w1.heap.size ss.length) (fun _ i _ => ss.length - (intOf i).toNat)
    case atStart =>
      exact ⟨0, g, [], first, 0, Nat.zero_le _, rfl, rfl, hg, by omega, hR.below ((Below.refl _ _).alloc (Nat.le_refl _) _), Blk.new w1 _ _, by simp, hB.alloc hB.size _⟩
    case round =>
      obtain ⟨k, ga, l, f, x, hk, rfl, rfl, hga, hne, hRr, hQr, hln, hBr⟩ := hrel
      by_cases hlt : k < ss.length
      · have x1 : wr.cell? ⟨h, off + k, none⟩ = some (.string ss[k]) := (hBr.cell (p := ⟨h, off + k, none⟩) hh).trans (sr_cell hm k hlt)
        obtain ⟨s, hsk⟩ : ∃ s, ss[k] = s := ⟨_, rfl⟩
        rw [hsk] at x1
        clear hsk hm
        by_cases hbig : 5000 < s.size
        · go_wp2_with (go_at_call 8; refine (known_any _).mono ?_; rintro e w5 ⟨rfl, hb⟩)
          go_ret
          exact ⟨rfl, hBr.trans (hb.mono hBr.size)⟩
        · have hs5 : s.size ≤ 5000 := by omega
          have hsl : s.data.toList.length = s.size := by rw [← Lib.size_eq]
          obtain ⟨ms, l2, f2, x2, hfd, hm1, hm2⟩ := fed_parts l f x s.data.toList
          rw [hsl] at hm1 hm2
          have HF := Lib.hid hfd
          clear hfd hsl hbig
          by_cases hcp : (k : Int) = cut % 8
          · have hcb : ((k : Int) == cut % 8) = true := by simpa using hcp
            have HC := Lib.hid hcp
            clear hcp
            have hna : ∀ gc, wr.heap.size ≤ gc → gc ≠ ga := fun gc h => by have := hRr.lt; omega
            have hnq : ∀ gc, wr.heap.size ≤ gc → gc ≠ w1.heap.size := fun gc h => by have : w1.heap.size < wr.heap.size := Blk.lt hQr; omega
            go_wp2_with fail
            refine (copy_yes _ _ _ _ _ hRr).mono ?_; rintro e wc ⟨gc, rfl, hgc, hRc, hBc⟩
            replace hRr := hRr.below hBc
            replace hQr := RRd.below hQr hBc
            have hlq : w1.heap.size < wc.heap.size := Blk.lt hQr
            have nq : gc ≠ w1.heap.size := hnq gc hgc
            have nga : ga < wc.heap.size := hRr.lt
            have ngc : gc ≠ ga := hna gc hgc
            have x2c : wc.cell? ⟨h, off + k, none⟩ = some (.string s) := (hBc.cell (p := ⟨h, off + k, none⟩) (by have := hBr.size; show h < wr.heap.size; omega)).trans x1
            have hgc0 : w.heap.size ≤ gc := Nat.le_trans hBr.size hgc
            replace hBr := hBr.trans (hBc.mono hBr.size)
            clear hBc hgc x1
            go_wp2_with fail
            refine (feed_any _ _ _ _ _ _ hRr (by simp [ByteArray.size]; omega)).mono ?_; rintro e wd ⟨vd, rfl, _, _, hgd⟩
            obtain ⟨cd, hbd⟩ := hRr.blk
            replace hRr := hRc.other hbd (by decide) ngc hgd
            replace hQr := RRd.other hQr hne.symm hgd
            have x1 : wd.cell? ⟨h, off + k, none⟩ = some (.string s) := (World.cell?_of_block (a := ⟨h, off + k, none⟩) (hgd.block h (by have := hBr.size; omega) (by simp; omega))).trans x2c
            replace hBr := below_gb hBr hgd hBr.size hga
            replace hga := hgc0
            replace hne := nq
            clear hRc hbd hgd x2c hgc0 nq nga ngc hlq
            go_wp2_with fail
            refine (feed_out _ _ _ _ _ _ _ _ _ _ hRr (by omega) HF.out).mono ?_; rintro e w2 ⟨v1, rfl, hMa, hR2, hg2⟩
            obtain ⟨ca, hba⟩ := hRr.blk
            have y1 : w2.cell? ⟨h, off + k, none⟩ = some (.string s) := (World.cell?_of_block (a := ⟨h, off + k, none⟩) (hg2.block h (by have := hBr.size; omega) (by simp; omega))).trans x1
            replace hQr := RRd.other hQr hne.symm hg2
            replace hBr := below_gb hBr hg2 hBr.size hga
            replace hRr := hR2
            clear hR2 hba hg2 x1
            go_wp2_with fail
            refine (feed_out2 _ _ _ _ _ _ _ _ _ _ hQr (by omega) HF.out).mono ?_; rintro e w3 ⟨v2, rfl, hMb, hQ3, hg3⟩
            have hqb : Blk w2 w1.heap.size 29 _ := hQr
            replace hMa := hMa.grown hqb (by decide) hg3
            replace hRr := hRr.other hqb (by decide) hne hg3
            have hgb0 : w.heap.size ≤ w1.heap.size := hB.size
            replace hBr := below_gb hBr hg3 hBr.size hgb0
            have q0 : w3.cell? ⟨w1.heap.size, 0, none⟩ = some (.string (ba l2)) := Blk.cell hQ3 0
            have q2 : w3.cell? ⟨w1.heap.size, 2, none⟩ = some (.int .i64 x2) := Blk.cell hQ3 2
            have hlt3 : w1.heap.size < w3.heap.size := Blk.lt hQ3
            clear hQr hqb hg3
            go_wp2
            refine wp_region_held_drew (S := (fun w' => w'.cell? ⟨w1.heap.size, 0, none⟩ = some (.string (ba l2)) ∧ w'.cell? ⟨w1.heap.size, 2, none⟩ = some (.int .i64 x2) ∧ Below w3.heap.size w3 w')) (by kernel_rfl) ?_ (fun hS => ?_)
            · exact ⟨q0, q2, (Below.refl _ _).drew⟩
            try dsimp only at hS
            refine wpAnyH_take (i := 0) (v := ?_) rfl (by kernel_rfl) (by kernel_rfl) (by kernel_rfl) (fun _ _ _ h => h) (Or.inl ⟨by kernel_rfl, ?_⟩) hS ?_
            rotate_left
            · intro wz hSz; try dsimp only at hSz
              go_simp
              all_goals with_reducible rfl
            try simp only [Act.put, List.getElem_toArray, List.getElem_cons_succ, List.getElem_cons_zero, List.setIfInBounds_toArray, List.set_cons_zero, List.set_cons_succ]
            refine wpAnyH_take (i := 1) (v := ?_) rfl (by kernel_rfl) (by kernel_rfl) (by kernel_rfl) (fun _ _ _ h => h) (Or.inl ⟨by kernel_rfl, ?_⟩) hS ?_
            rotate_left
            · intro wz hSz; try dsimp only at hSz
              go_simp
              all_goals with_reducible rfl
            try simp only [Act.put, List.getElem_toArray, List.getElem_cons_succ, List.getElem_cons_zero, List.setIfInBounds_toArray, List.set_cons_zero, List.set_cons_succ]
            refine wpAnyH_ready (rs := [2]) (by kernel_rfl) (by simp) (AllReadyH.cons rfl (fun K hK => ?_) AllReadyH.nil)
            go_simp
            (go_at_call 13; refine (same_bel _ _ ms _ (MR.own (hMa.below hS.2.2)) (MR.own (hMb.below hS.2.2)) (by omega)).mono ?_; rintro e w4 ⟨rfl, hb⟩)
            refine hK.out _ _ ?_ (fun hSn => ?_)
            · exact stays hlt3 hS hb
            clear hK K hS
            have hS := hSn
            clear hSn
            try dsimp only at hS
            try simp only [Act.put, List.getElem_toArray, List.getElem_cons_succ, List.getElem_cons_zero, List.setIfInBounds_toArray, List.set_cons_zero, List.set_cons_succ]
            refine wpAnyH_take (i := 3) (v := ?_) rfl (by kernel_rfl) (by kernel_rfl) (by kernel_rfl) (fun _ _ _ h => h) (Or.inl ⟨by kernel_rfl, ?_⟩) hS ?_
            rotate_left
            · intro wz hSz; try dsimp only at hSz
              go_simp
              all_goals with_reducible rfl
            try simp only [Act.put, List.getElem_toArray, List.getElem_cons_succ, List.getElem_cons_zero, List.setIfInBounds_toArray, List.set_cons_zero, List.set_cons_succ]
            refine wpAnyH_take (i := 4) (v := ?_) rfl (by kernel_rfl) (by kernel_rfl) (by kernel_rfl) (fun _ _ _ h => h) (Or.inl ⟨by kernel_rfl, ?_⟩) hS ?_
            rotate_left
            · intro wz hSz; try dsimp only at hSz
              go_simp
              all_goals with_reducible rfl
            try simp only [Act.put, List.getElem_toArray, List.getElem_cons_succ, List.getElem_cons_zero, List.setIfInBounds_toArray, List.set_cons_zero, List.set_cons_succ]
            refine wpAnyH_take (i := 5) (v := ?_) rfl (by kernel_rfl) (by kernel_rfl) (by kernel_rfl) (fun _ _ _ h => h) (Or.inl ⟨by kernel_rfl, ?_⟩) hS ?_
            rotate_left
            · intro wz hSz; try dsimp only at hSz
              go_simp
              all_goals with_reducible rfl
            try simp only [Act.put, List.getElem_toArray, List.getElem_cons_succ, List.getElem_cons_zero, List.setIfInBounds_toArray, List.set_cons_zero, List.set_cons_succ]
            refine wpAnyH_take (i := 6) (v := ?_) rfl (by kernel_rfl) (by kernel_rfl) (by kernel_rfl) (fun _ _ _ h => h) (Or.inl ⟨by kernel_rfl, ?_⟩) hS ?_
            rotate_left
            · intro wz hSz; try dsimp only at hSz
              go_simp
              all_goals with_reducible rfl
            try simp only [Act.put, List.getElem_toArray, List.getElem_cons_succ, List.getElem_cons_zero, List.setIfInBounds_toArray, List.set_cons_zero, List.set_cons_succ]
            refine wpAnyH_take (i := 7) (v := ?_) rfl (by kernel_rfl) (by kernel_rfl) (by kernel_rfl) (fun _ _ _ h => h) (Or.inl ⟨by kernel_rfl, ?_⟩) hS ?_
            rotate_left
            · intro wz hSz; try dsimp only at hSz
              go_simp
              all_goals with_reducible rfl
            try simp only [Act.put, List.getElem_toArray, List.getElem_cons_succ, List.getElem_cons_zero, List.setIfInBounds_toArray, List.set_cons_zero, List.set_cons_succ]
            refine wpAnyH_take (i := 8) (v := ?_) rfl (by kernel_rfl) (by kernel_rfl) (by kernel_rfl) (fun _ _ _ h => h) (Or.inl ⟨by kernel_rfl, ?_⟩) hS ?_
            rotate_left
            · intro wz hSz; try dsimp only at hSz
              go_simp
              all_goals with_reducible rfl
            try simp only [Act.put, List.getElem_toArray, List.getElem_cons_succ, List.getElem_cons_zero, List.setIfInBounds_toArray, List.set_cons_zero, List.set_cons_succ]
            refine wpAnyH_take (i := 9) (v := ?_) rfl (by kernel_rfl) (by kernel_rfl) (by kernel_rfl) (fun _ _ _ h => h) (Or.inl ⟨by kernel_rfl, ?_⟩) hS ?_
            rotate_left
            · intro wz hSz; try dsimp only at hSz
              go_simp
              all_goals with_reducible rfl
            try simp only [Act.put, List.getElem_toArray, List.getElem_cons_succ, List.getElem_cons_zero, List.setIfInBounds_toArray, List.set_cons_zero, List.set_cons_succ]
            refine wpAnyH_take (i := 10) (v := ?_) rfl (by kernel_rfl) (by kernel_rfl) (by kernel_rfl) (fun _ _ _ h => h) (Or.inl ⟨by kernel_rfl, ?_⟩) hS ?_
            rotate_left
            · intro wz hSz; try dsimp only at hSz
              go_simp
              all_goals with_reducible rfl
            try simp only [Act.put, List.getElem_toArray, List.getElem_cons_succ, List.getElem_cons_zero, List.setIfInBounds_toArray, List.set_cons_zero, List.set_cons_succ]
            refine wpAnyH_take (i := 12) (v := ?_) rfl (by kernel_rfl) (by kernel_rfl) (by kernel_rfl) (fun _ _ _ h => h) (Or.inl ⟨by kernel_rfl, ?_⟩) hS ?_
            rotate_left
            · intro wz hSz; try dsimp only at hSz
              go_simp
              all_goals with_reducible rfl
            try simp only [Act.put, List.getElem_toArray, List.getElem_cons_succ, List.getElem_cons_zero, List.setIfInBounds_toArray, List.set_cons_zero, List.set_cons_succ]
            refine wpAnyH_take (i := 13) (v := ?_) rfl (by kernel_rfl) (by kernel_rfl) (by kernel_rfl) (fun _ _ _ h => h) (Or.inl ⟨by kernel_rfl, ?_⟩) hS ?_
            rotate_left
            · intro wz hSz; try dsimp only at hSz
              go_simp
              all_goals with_reducible rfl
            try simp only [Act.put, List.getElem_toArray, List.getElem_cons_succ, List.getElem_cons_zero, List.setIfInBounds_toArray, List.set_cons_zero, List.set_cons_succ]
            refine wpAnyH_take (i := 14) (v := ?_) rfl (by kernel_rfl) (by kernel_rfl) (by kernel_rfl) (fun _ _ _ h => h) (Or.inl ⟨by kernel_rfl, ?_⟩) hS ?_
            rotate_left
            · intro wz hSz; try dsimp only at hSz
              go_simp
              all_goals with_reducible rfl
            try simp only [Act.put, List.getElem_toArray, List.getElem_cons_succ, List.getElem_cons_zero, List.setIfInBounds_toArray, List.set_cons_zero, List.set_cons_succ]
            refine wpAnyH_take (i := 15) (v := ?_) rfl (by kernel_rfl) (by kernel_rfl) (by kernel_rfl) (fun _ _ _ h => h) (Or.inl ⟨by kernel_rfl, ?_⟩) hS ?_
            rotate_left
            · intro wz hSz; try dsimp only at hSz
              go_simp
              all_goals with_reducible rfl
            try simp only [Act.put, List.getElem_toArray, List.getElem_cons_succ, List.getElem_cons_zero, List.setIfInBounds_toArray, List.set_cons_zero, List.set_cons_succ]
            refine wpAnyH_ready (rs := [11]) (by kernel_rfl) (by simp) (AllReadyH.cons rfl (fun K hK => ?_) AllReadyH.nil)
            go_simp
            (go_at_call 14; refine (rest_yes _ _ _ _ _ (hRr.below hS.2.2)).mono ?_; rintro e w4 ⟨rfl, rfl⟩)
            refine hK.out _ _ ?_ (fun hSn => ?_)
            · exact hS
            clear hK K hS
            have hS := hSn
            clear hSn
            try dsimp only at hS
            try simp only [Act.put, List.getElem_toArray, List.getElem_cons_succ, List.getElem_cons_zero, List.setIfInBounds_toArray, List.set_cons_zero, List.set_cons_succ]
            refine wpAnyH_take (i := 16) (v := ?_) rfl (by kernel_rfl) (by kernel_rfl) (by kernel_rfl) (fun _ _ _ h => h) (Or.inl ⟨by kernel_rfl, ?_⟩) hS ?_
            rotate_left
            · intro wz hSz; try dsimp only at hSz
              go_simp
              all_goals with_reducible rfl
            try simp only [Act.put, List.getElem_toArray, List.getElem_cons_succ, List.getElem_cons_zero, List.setIfInBounds_toArray, List.set_cons_zero, List.set_cons_succ]
            refine wpAnyH_take (i := 17) (v := ?_) rfl (by kernel_rfl) (by kernel_rfl) (by kernel_rfl) (fun _ _ _ h => h) (Or.inl ⟨by kernel_rfl, ?_⟩) hS ?_
            rotate_left
            · intro wz hSz; try dsimp only at hSz
              go_simp
              all_goals with_reducible rfl
            try simp only [Act.put, List.getElem_toArray, List.getElem_cons_succ, List.getElem_cons_zero, List.setIfInBounds_toArray, List.set_cons_zero, List.set_cons_succ]
            refine wpAnyH_take (i := 18) (v := ?_) rfl (by kernel_rfl) (by kernel_rfl) (by kernel_rfl) (fun _ _ _ h => h) (Or.inl ⟨by kernel_rfl, ?_⟩) hS ?_
            rotate_left
            · intro wz hSz; try dsimp only at hSz
              go_simp
              all_goals with_reducible rfl
            try simp only [Act.put, List.getElem_toArray, List.getElem_cons_succ, List.getElem_cons_zero, List.setIfInBounds_toArray, List.set_cons_zero, List.set_cons_succ]
            refine wpAnyH_take (i := 19) (v := ?_) rfl (by kernel_rfl) (by kernel_rfl) (by kernel_rfl) (fun _ _ _ h => h) (Or.inl ⟨by kernel_rfl, ?_⟩) hS ?_
            rotate_left
            · intro wz hSz; try dsimp only at hSz
              go_simp
              all_goals with_reducible rfl
            try simp only [Act.put, List.getElem_toArray, List.getElem_cons_succ, List.getElem_cons_zero, List.setIfInBounds_toArray, List.set_cons_zero, List.set_cons_succ]
            refine wpAnyH_take (i := 21) (v := ?_) rfl (by kernel_rfl) (by kernel_rfl) (by kernel_rfl) (fun _ _ _ h => h) (Or.inl ⟨by kernel_rfl, ?_⟩) hS ?_
            rotate_left
            · intro wz hSz; try dsimp only at hSz
              go_simp
              all_goals with_reducible rfl
            try simp only [Act.put, List.getElem_toArray, List.getElem_cons_succ, List.getElem_cons_zero, List.setIfInBounds_toArray, List.set_cons_zero, List.set_cons_succ]
            refine wpAnyH_take (i := 22) (v := ?_) rfl (by kernel_rfl) (by kernel_rfl) (by kernel_rfl) (fun _ _ _ h => h) (Or.inl ⟨by kernel_rfl, ?_⟩) hS ?_
            rotate_left
            · intro wz hSz; try dsimp only at hSz
              go_simp
              all_goals with_reducible rfl
            try simp only [Act.put, List.getElem_toArray, List.getElem_cons_succ, List.getElem_cons_zero, List.setIfInBounds_toArray, List.set_cons_zero, List.set_cons_succ]
            refine wpAnyH_take (i := 23) (v := ?_) rfl (by kernel_rfl) (by kernel_rfl) (by kernel_rfl) (fun _ _ _ h => h) (Or.inl ⟨by kernel_rfl, ?_⟩) hS ?_
            rotate_left
            · intro wz hSz; try dsimp only at hSz
              go_simp
              all_goals with_reducible rfl
            try simp only [Act.put, List.getElem_toArray, List.getElem_cons_succ, List.getElem_cons_zero, List.setIfInBounds_toArray, List.set_cons_zero, List.set_cons_succ]
            refine wpAnyH_take (i := 24) (v := ?_) rfl (by kernel_rfl) (by kernel_rfl) (by kernel_rfl) (fun _ _ _ h => h) (Or.inl ⟨by kernel_rfl, ?_⟩) hS ?_
            rotate_left
            · intro wz hSz; try dsimp only at hSz
              go_simp
              all_goals with_reducible rfl
            try simp only [Act.put, List.getElem_toArray, List.getElem_cons_succ, List.getElem_cons_zero, List.setIfInBounds_toArray, List.set_cons_zero, List.set_cons_succ]
            refine wpAnyH_ready (rs := [20]) (by kernel_rfl) (by simp) (AllReadyH.cons rfl (fun K hK => ?_) AllReadyH.nil)
            go_simp
            (go_at_call 15; refine (bad_yes _ _ _ _ _ (hRr.below hS.2.2)).mono ?_; rintro e w4 ⟨rfl, rfl⟩)
            refine hK.out _ _ ?_ (fun hSn => ?_)
            · exact hS
            clear hK K hS
            have hS := hSn
            clear hSn
            try dsimp only at hS
            try simp only [Act.put, List.getElem_toArray, List.getElem_cons_succ, List.getElem_cons_zero, List.setIfInBounds_toArray, List.set_cons_zero, List.set_cons_succ]
            refine wpAnyH_take (i := 25) (v := ?_) rfl (by kernel_rfl) (by kernel_rfl) (by kernel_rfl) (fun _ _ _ h => h) (Or.inl ⟨by kernel_rfl, ?_⟩) hS ?_
            rotate_left
            · intro wz hSz; try dsimp only at hSz
              go_simp
              all_goals with_reducible rfl
            try simp only [Act.put, List.getElem_toArray, List.getElem_cons_succ, List.getElem_cons_zero, List.setIfInBounds_toArray, List.set_cons_zero, List.set_cons_succ]
            refine wpAnyH_take (i := 26) (v := ?_) rfl (by kernel_rfl) (by kernel_rfl) (by kernel_rfl) (fun _ _ _ h => h) (Or.inl ⟨by kernel_rfl, ?_⟩) hS ?_
            rotate_left
            · intro wz hSz; try dsimp only at hSz
              go_simp
              all_goals with_reducible rfl
            try simp only [Act.put, List.getElem_toArray, List.getElem_cons_succ, List.getElem_cons_zero, List.setIfInBounds_toArray, List.set_cons_zero, List.set_cons_succ]
            refine wpAnyH_done (by kernel_rfl) ?_ _
            go_wp2
            go_roundw
            case rel => exact ⟨k + 1, _, l2, f2, x2, hlt, by go_num, rfl, hga, hne, hRr.below hS.2.2, RRd.below hQ3 hS.2.2, by omega, hBr.trans (hS.2.2.mono hBr.size)⟩
            case measure => simp [intOf]; omega
          · have hcb : ((k : Int) == cut % 8) = false := by simpa using hcp
            clear hcp
            go_wp2_with fail
            refine (feed_out _ _ _ _ _ _ _ _ _ _ hRr (by omega) HF.out).mono ?_; rintro e w2 ⟨v1, rfl, hMa, hR2, hg2⟩
            obtain ⟨ca, hba⟩ := hRr.blk
            have y1 : w2.cell? ⟨h, off + k, none⟩ = some (.string s) := (World.cell?_of_block (a := ⟨h, off + k, none⟩) (hg2.block h (by have := hBr.size; omega) (by simp; omega))).trans x1
            replace hQr := RRd.other hQr hne.symm hg2
            replace hBr := below_gb hBr hg2 hBr.size hga
            replace hRr := hR2
            clear hR2 hba hg2 x1
            go_wp2_with fail
            refine (feed_out2 _ _ _ _ _ _ _ _ _ _ hQr (by omega) HF.out).mono ?_; rintro e w3 ⟨v2, rfl, hMb, hQ3, hg3⟩
            have hqb : Blk w2 w1.heap.size 29 _ := hQr
            replace hMa := hMa.grown hqb (by decide) hg3
            replace hRr := hRr.other hqb (by decide) hne hg3
            have hgb0 : w.heap.size ≤ w1.heap.size := hB.size
            replace hBr := below_gb hBr hg3 hBr.size hgb0
            have q0 : w3.cell? ⟨w1.heap.size, 0, none⟩ = some (.string (ba l2)) := Blk.cell hQ3 0
            have q2 : w3.cell? ⟨w1.heap.size, 2, none⟩ = some (.int .i64 x2) := Blk.cell hQ3 2
            have hlt3 : w1.heap.size < w3.heap.size := Blk.lt hQ3
            clear hQr hqb hg3
            go_wp2
            refine wp_region_held_drew (S := (fun w' => w'.cell? ⟨w1.heap.size, 0, none⟩ = some (.string (ba l2)) ∧ w'.cell? ⟨w1.heap.size, 2, none⟩ = some (.int .i64 x2) ∧ Below w3.heap.size w3 w')) (by kernel_rfl) ?_ (fun hS => ?_)
            · exact ⟨q0, q2, (Below.refl _ _).drew⟩
            try dsimp only at hS
            refine wpAnyH_take (i := 0) (v := ?_) rfl (by kernel_rfl) (by kernel_rfl) (by kernel_rfl) (fun _ _ _ h => h) (Or.inl ⟨by kernel_rfl, ?_⟩) hS ?_
            rotate_left
            · intro wz hSz; try dsimp only at hSz
              go_simp
              all_goals with_reducible rfl
            try simp only [Act.put, List.getElem_toArray, List.getElem_cons_succ, List.getElem_cons_zero, List.setIfInBounds_toArray, List.set_cons_zero, List.set_cons_succ]
            refine wpAnyH_take (i := 1) (v := ?_) rfl (by kernel_rfl) (by kernel_rfl) (by kernel_rfl) (fun _ _ _ h => h) (Or.inl ⟨by kernel_rfl, ?_⟩) hS ?_
            rotate_left
            · intro wz hSz; try dsimp only at hSz
              go_simp
              all_goals with_reducible rfl
            try simp only [Act.put, List.getElem_toArray, List.getElem_cons_succ, List.getElem_cons_zero, List.setIfInBounds_toArray, List.set_cons_zero, List.set_cons_succ]
            refine wpAnyH_ready (rs := [2]) (by kernel_rfl) (by simp) (AllReadyH.cons rfl (fun K hK => ?_) AllReadyH.nil)
            go_simp
            (go_at_call 13; refine (same_bel _ _ ms _ (MR.own (hMa.below hS.2.2)) (MR.own (hMb.below hS.2.2)) (by omega)).mono ?_; rintro e w4 ⟨rfl, hb⟩)
            refine hK.out _ _ ?_ (fun hSn => ?_)
            · exact stays hlt3 hS hb
            clear hK K hS
            have hS := hSn
            clear hSn
            try dsimp only at hS
            try simp only [Act.put, List.getElem_toArray, List.getElem_cons_succ, List.getElem_cons_zero, List.setIfInBounds_toArray, List.set_cons_zero, List.set_cons_succ]
            refine wpAnyH_take (i := 3) (v := ?_) rfl (by kernel_rfl) (by kernel_rfl) (by kernel_rfl) (fun _ _ _ h => h) (Or.inl ⟨by kernel_rfl, ?_⟩) hS ?_
            rotate_left
            · intro wz hSz; try dsimp only at hSz
              go_simp
              all_goals with_reducible rfl
            try simp only [Act.put, List.getElem_toArray, List.getElem_cons_succ, List.getElem_cons_zero, List.setIfInBounds_toArray, List.set_cons_zero, List.set_cons_succ]
            refine wpAnyH_take (i := 4) (v := ?_) rfl (by kernel_rfl) (by kernel_rfl) (by kernel_rfl) (fun _ _ _ h => h) (Or.inl ⟨by kernel_rfl, ?_⟩) hS ?_
            rotate_left
            · intro wz hSz; try dsimp only at hSz
              go_simp
              all_goals with_reducible rfl
            try simp only [Act.put, List.getElem_toArray, List.getElem_cons_succ, List.getElem_cons_zero, List.setIfInBounds_toArray, List.set_cons_zero, List.set_cons_succ]
            refine wpAnyH_take (i := 5) (v := ?_) rfl (by kernel_rfl) (by kernel_rfl) (by kernel_rfl) (fun _ _ _ h => h) (Or.inl ⟨by kernel_rfl, ?_⟩) hS ?_
            rotate_left
            · intro wz hSz; try dsimp only at hSz
              go_simp
              all_goals with_reducible rfl
            try simp only [Act.put, List.getElem_toArray, List.getElem_cons_succ, List.getElem_cons_zero, List.setIfInBounds_toArray, List.set_cons_zero, List.set_cons_succ]
            refine wpAnyH_take (i := 6) (v := ?_) rfl (by kernel_rfl) (by kernel_rfl) (by kernel_rfl) (fun _ _ _ h => h) (Or.inl ⟨by kernel_rfl, ?_⟩) hS ?_
            rotate_left
            · intro wz hSz; try dsimp only at hSz
              go_simp
              all_goals with_reducible rfl
            try simp only [Act.put, List.getElem_toArray, List.getElem_cons_succ, List.getElem_cons_zero, List.setIfInBounds_toArray, List.set_cons_zero, List.set_cons_succ]
            refine wpAnyH_take (i := 7) (v := ?_) rfl (by kernel_rfl) (by kernel_rfl) (by kernel_rfl) (fun _ _ _ h => h) (Or.inl ⟨by kernel_rfl, ?_⟩) hS ?_
            rotate_left
            · intro wz hSz; try dsimp only at hSz
              go_simp
              all_goals with_reducible rfl
            try simp only [Act.put, List.getElem_toArray, List.getElem_cons_succ, List.getElem_cons_zero, List.setIfInBounds_toArray, List.set_cons_zero, List.set_cons_succ]
            refine wpAnyH_take (i := 8) (v := ?_) rfl (by kernel_rfl) (by kernel_rfl) (by kernel_rfl) (fun _ _ _ h => h) (Or.inl ⟨by kernel_rfl, ?_⟩) hS ?_
            rotate_left
            · intro wz hSz; try dsimp only at hSz
              go_simp
              all_goals with_reducible rfl
            try simp only [Act.put, List.getElem_toArray, List.getElem_cons_succ, List.getElem_cons_zero, List.setIfInBounds_toArray, List.set_cons_zero, List.set_cons_succ]
            refine wpAnyH_take (i := 9) (v := ?_) rfl (by kernel_rfl) (by kernel_rfl) (by kernel_rfl) (fun _ _ _ h => h) (Or.inl ⟨by kernel_rfl, ?_⟩) hS ?_
            rotate_left
            · intro wz hSz; try dsimp only at hSz
              go_simp
              all_goals with_reducible rfl
            try simp only [Act.put, List.getElem_toArray, List.getElem_cons_succ, List.getElem_cons_zero, List.setIfInBounds_toArray, List.set_cons_zero, List.set_cons_succ]
            refine wpAnyH_take (i := 10) (v := ?_) rfl (by kernel_rfl) (by kernel_rfl) (by kernel_rfl) (fun _ _ _ h => h) (Or.inl ⟨by kernel_rfl, ?_⟩) hS ?_
            rotate_left
            · intro wz hSz; try dsimp only at hSz
              go_simp
              all_goals with_reducible rfl
            try simp only [Act.put, List.getElem_toArray, List.getElem_cons_succ, List.getElem_cons_zero, List.setIfInBounds_toArray, List.set_cons_zero, List.set_cons_succ]
            refine wpAnyH_take (i := 12) (v := ?_) rfl (by kernel_rfl) (by kernel_rfl) (by kernel_rfl) (fun _ _ _ h => h) (Or.inl ⟨by kernel_rfl, ?_⟩) hS ?_
            rotate_left
            · intro wz hSz; try dsimp only at hSz
              go_simp
              all_goals with_reducible rfl
            try simp only [Act.put, List.getElem_toArray, List.getElem_cons_succ, List.getElem_cons_zero, List.setIfInBounds_toArray, List.set_cons_zero, List.set_cons_succ]
            refine wpAnyH_take (i := 13) (v := ?_) rfl (by kernel_rfl) (by kernel_rfl) (by kernel_rfl) (fun _ _ _ h => h) (Or.inl ⟨by kernel_rfl, ?_⟩) hS ?_
            rotate_left
            · intro wz hSz; try dsimp only at hSz
              go_simp
              all_goals with_reducible rfl
            try simp only [Act.put, List.getElem_toArray, List.getElem_cons_succ, List.getElem_cons_zero, List.setIfInBounds_toArray, List.set_cons_zero, List.set_cons_succ]
            refine wpAnyH_take (i := 14) (v := ?_) rfl (by kernel_rfl) (by kernel_rfl) (by kernel_rfl) (fun _ _ _ h => h) (Or.inl ⟨by kernel_rfl, ?_⟩) hS ?_
            rotate_left
            · intro wz hSz; try dsimp only at hSz
              go_simp
              all_goals with_reducible rfl
            try simp only [Act.put, List.getElem_toArray, List.getElem_cons_succ, List.getElem_cons_zero, List.setIfInBounds_toArray, List.set_cons_zero, List.set_cons_succ]
            refine wpAnyH_take (i := 15) (v := ?_) rfl (by kernel_rfl) (by kernel_rfl) (by kernel_rfl) (fun _ _ _ h => h) (Or.inl ⟨by kernel_rfl, ?_⟩) hS ?_
            rotate_left
            · intro wz hSz; try dsimp only at hSz
              go_simp
              all_goals with_reducible rfl
            try simp only [Act.put, List.getElem_toArray, List.getElem_cons_succ, List.getElem_cons_zero, List.setIfInBounds_toArray, List.set_cons_zero, List.set_cons_succ]
            refine wpAnyH_ready (rs := [11]) (by kernel_rfl) (by simp) (AllReadyH.cons rfl (fun K hK => ?_) AllReadyH.nil)
            go_simp
            (go_at_call 14; refine (rest_yes _ _ _ _ _ (hRr.below hS.2.2)).mono ?_; rintro e w4 ⟨rfl, rfl⟩)
            refine hK.out _ _ ?_ (fun hSn => ?_)
            · exact hS
            clear hK K hS
            have hS := hSn
            clear hSn
            try dsimp only at hS
            try simp only [Act.put, List.getElem_toArray, List.getElem_cons_succ, List.getElem_cons_zero, List.setIfInBounds_toArray, List.set_cons_zero, List.set_cons_succ]
            refine wpAnyH_take (i := 16) (v := ?_) rfl (by kernel_rfl) (by kernel_rfl) (by kernel_rfl) (fun _ _ _ h => h) (Or.inl ⟨by kernel_rfl, ?_⟩) hS ?_
            rotate_left
            · intro wz hSz; try dsimp only at hSz
              go_simp
              all_goals with_reducible rfl
            try simp only [Act.put, List.getElem_toArray, List.getElem_cons_succ, List.getElem_cons_zero, List.setIfInBounds_toArray, List.set_cons_zero, List.set_cons_succ]
            refine wpAnyH_take (i := 17) (v := ?_) rfl (by kernel_rfl) (by kernel_rfl) (by kernel_rfl) (fun _ _ _ h => h) (Or.inl ⟨by kernel_rfl, ?_⟩) hS ?_
            rotate_left
            · intro wz hSz; try dsimp only at hSz
              go_simp
              all_goals with_reducible rfl
            try simp only [Act.put, List.getElem_toArray, List.getElem_cons_succ, List.getElem_cons_zero, List.setIfInBounds_toArray, List.set_cons_zero, List.set_cons_succ]
            refine wpAnyH_take (i := 18) (v := ?_) rfl (by kernel_rfl) (by kernel_rfl) (by kernel_rfl) (fun _ _ _ h => h) (Or.inl ⟨by kernel_rfl, ?_⟩) hS ?_
            rotate_left
            · intro wz hSz; try dsimp only at hSz
              go_simp
              all_goals with_reducible rfl
            try simp only [Act.put, List.getElem_toArray, List.getElem_cons_succ, List.getElem_cons_zero, List.setIfInBounds_toArray, List.set_cons_zero, List.set_cons_succ]
            refine wpAnyH_take (i := 19) (v := ?_) rfl (by kernel_rfl) (by kernel_rfl) (by kernel_rfl) (fun _ _ _ h => h) (Or.inl ⟨by kernel_rfl, ?_⟩) hS ?_
            rotate_left
            · intro wz hSz; try dsimp only at hSz
              go_simp
              all_goals with_reducible rfl
            try simp only [Act.put, List.getElem_toArray, List.getElem_cons_succ, List.getElem_cons_zero, List.setIfInBounds_toArray, List.set_cons_zero, List.set_cons_succ]
            refine wpAnyH_take (i := 21) (v := ?_) rfl (by kernel_rfl) (by kernel_rfl) (by kernel_rfl) (fun _ _ _ h => h) (Or.inl ⟨by kernel_rfl, ?_⟩) hS ?_
            rotate_left
            · intro wz hSz; try dsimp only at hSz
              go_simp
              all_goals with_reducible rfl
            try simp only [Act.put, List.getElem_toArray, List.getElem_cons_succ, List.getElem_cons_zero, List.setIfInBounds_toArray, List.set_cons_zero, List.set_cons_succ]
            refine wpAnyH_take (i := 22) (v := ?_) rfl (by kernel_rfl) (by kernel_rfl) (by kernel_rfl) (fun _ _ _ h => h) (Or.inl ⟨by kernel_rfl, ?_⟩) hS ?_
            rotate_left
            · intro wz hSz; try dsimp only at hSz
              go_simp
              all_goals with_reducible rfl
            try simp only [Act.put, List.getElem_toArray, List.getElem_cons_succ, List.getElem_cons_zero, List.setIfInBounds_toArray, List.set_cons_zero, List.set_cons_succ]
            refine wpAnyH_take (i := 23) (v := ?_) rfl (by kernel_rfl) (by kernel_rfl) (by kernel_rfl) (fun _ _ _ h => h) (Or.inl ⟨by kernel_rfl, ?_⟩) hS ?_
            rotate_left
            · intro wz hSz; try dsimp only at hSz
              go_simp
              all_goals with_reducible rfl
            try simp only [Act.put, List.getElem_toArray, List.getElem_cons_succ, List.getElem_cons_zero, List.setIfInBounds_toArray, List.set_cons_zero, List.set_cons_succ]
            refine wpAnyH_take (i := 24) (v := ?_) rfl (by kernel_rfl) (by kernel_rfl) (by kernel_rfl) (fun _ _ _ h => h) (Or.inl ⟨by kernel_rfl, ?_⟩) hS ?_
            rotate_left
            · intro wz hSz; try dsimp only at hSz
              go_simp
              all_goals with_reducible rfl
            try simp only [Act.put, List.getElem_toArray, List.getElem_cons_succ, List.getElem_cons_zero, List.setIfInBounds_toArray, List.set_cons_zero, List.set_cons_succ]
            refine wpAnyH_ready (rs := [20]) (by kernel_rfl) (by simp) (AllReadyH.cons rfl (fun K hK => ?_) AllReadyH.nil)
            go_simp
            (go_at_call 15; refine (bad_yes _ _ _ _ _ (hRr.below hS.2.2)).mono ?_; rintro e w4 ⟨rfl, rfl⟩)
            refine hK.out _ _ ?_ (fun hSn => ?_)
            · exact hS
            clear hK K hS
            have hS := hSn
            clear hSn
            try dsimp only at hS
            try simp only [Act.put, List.getElem_toArray, List.getElem_cons_succ, List.getElem_cons_zero, List.setIfInBounds_toArray, List.set_cons_zero, List.set_cons_succ]
            refine wpAnyH_take (i := 25) (v := ?_) rfl (by kernel_rfl) (by kernel_rfl) (by kernel_rfl) (fun _ _ _ h => h) (Or.inl ⟨by kernel_rfl, ?_⟩) hS ?_
            rotate_left
            · intro wz hSz; try dsimp only at hSz
              go_simp
              all_goals with_reducible rfl
            try simp only [Act.put, List.getElem_toArray, List.getElem_cons_succ, List.getElem_cons_zero, List.setIfInBounds_toArray, List.set_cons_zero, List.set_cons_succ]
            refine wpAnyH_take (i := 26) (v := ?_) rfl (by kernel_rfl) (by kernel_rfl) (by kernel_rfl) (fun _ _ _ h => h) (Or.inl ⟨by kernel_rfl, ?_⟩) hS ?_
            rotate_left
            · intro wz hSz; try dsimp only at hSz
              go_simp
              all_goals with_reducible rfl
            try simp only [Act.put, List.getElem_toArray, List.getElem_cons_succ, List.getElem_cons_zero, List.setIfInBounds_toArray, List.set_cons_zero, List.set_cons_succ]
            refine wpAnyH_done (by kernel_rfl) ?_ _
            go_wp2
            go_roundw
            case rel => exact ⟨k + 1, _, l2, f2, x2, hlt, by go_num, rfl, hga, hne, hRr.below hS.2.2, RRd.below hQ3 hS.2.2, by omega, hBr.trans (hS.2.2.mono hBr.size)⟩
            case measure => simp [intOf]; omega
      · go_wp2_with (go_at_call 8; refine (known_any _).mono ?_; rintro e w5 ⟨rfl, hb⟩)
        go_ret
        exact ⟨rfl, hBr.trans (hb.mono hBr.size)⟩

theorem walk (first : Bool) (v : Value) {w : World} (cut : Int) (hv : Fits w v) (hw : (Lit.int .u8 cut).wf = true) (w' : World) (he : w' = w := by rfl) :
    Calls Try.prog 3 #[.bool first, v, .int .u8 cut] w' fun e w2 => e = .returned (.bool true) ∧ Below w'.heap.size w' w2 := by
  subst he
  obtain ⟨ss, hm⟩ := hv
  have hc : 0 ≤ cut ∧ cut < 256 := by simp [Lit.wf, IntKind.min, IntKind.max, IntKind.signed, IntKind.bits] at hw; omega
  rcases hm with ⟨A, cap, rfl, rfl⟩ | ⟨h, off, cap, rfl, hcap, hcell⟩
  · exact walk_nil first A cap cut _
  · by_cases h0 : 0 < ss.length
    · exact walk_some first h off cap ss cut hc _ (.inr ⟨h, off, cap, rfl, hcap, hcell⟩) h0
    · have e : ss.length = 0 := by omega
      rw [e]
      exact walk_nil first _ cap cut _

theorem own : ownKnob Try.prog.godebug = none := by kernel_rfl
theorem laidOut : laidOutB Try.prog = true := by kernel_rfl
theorem weights_at {H : Type} {P : Program} {ts : List TypeId} {ds : List (DataW H)} (h : (DataW.weightsEach P ts ds).all (· ≤ reachBytes) = true) (j : Nat) {t : TypeId} {d : DataW H} (ht : ts[j]? = some t) (hd : ds[j]? = some d) : (DataW.weights P t d).all (· ≤ reachBytes) = true :=
  List.all_eq_true.2 fun x hx => List.all_eq_true.1 h x (DataW.weights_mem_each ht hd x hx)

set_option maxRecDepth 100000 in
theorem lifted (os : Os) (started : os.Started) (H : Type) (enc : TypeId × Value → H) :
    ReturnsInHanded {} Try.checked os 3 .any (Rows.frameFeedsSpec.pre6 enc Try.prog Try.f3 Rows.frameFeedsRow.domain false) (Rows.frameFeedsSpec.post enc Try.prog Try.f3 false true false false) := by
  refine returnsInHanded_of_change_sized (C := Try.checked) own started (by kernel_rfl) Try.func3
    (ChangeSpec.witness6 (enc := enc) (C := Try.checked) false ⟨#[], #[.bool false, .slice none 0 0, .int .u8 0], []⟩ 8 (by kernel_rfl) (by kernel_rfl) (by kernel_rfl) (by kernel_rfl)) ?_
  intro W base args ds gs before hval0 hW hcnd hsz0 _
  have hsz : (DataW.weightsEach Try.prog (Try.f3.params.toList ++ Rows.frameFeedsSpec.plain.varTypes Try.prog) (ds ++ gs)).all (· ≤ reachBytes) = true := hsz0
  clear hsz0
  have hval : ∀ (j : Nat) t v, Try.f3.params[j]? = some t → args[j]? = some v → Value.okWide Try.prog W .any base t v := hval0
  have hW' := hW
  obtain ⟨p, q, hA0, hV, rfl, hfz, hnd⟩ := hW
  have hA : DataW.TrodAll enc Try.prog W 0 (fun _ => true) true Try.f3.params.toList args.toList ds p := hA0
  rw [Try.params3] at hA hval hsz
  obtain ⟨v0, vs0, d0, ds0, p0, q0, hargs, rfl, rfl, h0, r0⟩ := trodAll_cons hA
  obtain ⟨v1, vs1, d1, ds1, p1, q1, rfl, rfl, rfl, h1, r1⟩ := trodAll_cons r0
  obtain ⟨v2, vs2, d2, ds2, p2, q2, rfl, rfl, rfl, h2, r2⟩ := trodAll_cons r1
  obtain ⟨rfl, rfl, rfl⟩ := trodAll_nil r2
  obtain rfl : args = #[v0, v1, v2] := by cases args; simp_all
  obtain ⟨rfl, rfl⟩ := trodVars_none hV
  obtain ⟨a0, rfl, rfl, rfl⟩ := open_bool Try.underlying4 (hval 0 4 v0 rfl rfl) h0
  have k1 := h1
  have lt1 : ∀ x ∈ p1, x.block < W.heap.size := by obtain ⟨m, hm⟩ := k1; exact DataW.trod_lt m _ _ _ hm
  have f1 := opened (hval 1 22 v1 rfl rfl) h1 (weights_at hsz 1 rfl rfl)
  obtain ⟨a2, rfl, rfl, rfl, w2⟩ := open_int Try.underlying5 (hval 2 5 v2 rfl rfl) h2
  clear hA0 hval0
  refine (walk a0 v1 a2 f1 w2 W).mono fun e W' ⟨he, bel⟩ => ?_
  subst he
  exact ⟨_, rfl, _, _, _, [], _, [], hW', trodAll_mk1 (shut_bool Try.underlying4 _), (trodAll_cons_mk (shut_bool Try.underlying4 _) (trodAll_cons_mk (Below.trod laidOut (by kernel_rfl) (of_decide_eq_true (by kernel_rfl)) k1 bel lt1) (trodAll_cons_mk (shut_int Try.underlying5 w2) trodAll_mk0))), rfl, bel.frame _, fun h => by cases h⟩

theorem over : Rows.frameFeedsRow.holds Try.pinned (OpenSpec.ofChange Rows.frameFeedsSpec) :=
  OpenClaim.holds_of_wide 3 Try.f3 rfl rfl rfl rfl rfl rfl rfl ⟨rfl, rfl, rfl, rfl, rfl⟩ rfl rfl rfl rfl rfl (by kernel_rfl) Try.func3 (by kernel_rfl)
    (of_decide_eq_true (by kernel_rfl)) (by unfold Func.isWrapper; rw [if_neg (by decide +kernel)]; exact ⟨rfl, rfl⟩)
    (fun os started H enc _ => lifted os started H enc)

theorem proved : Rows.FrameFeedsSaid := over
end Go.Proofs.Ythajnfmbgmmncaa.frameFeeds
