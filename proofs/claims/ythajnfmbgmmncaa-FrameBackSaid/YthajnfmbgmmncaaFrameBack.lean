/- FrameBack (layer 2): for every list of messages the law returns true and its argument reads as before: the bytes of right messages, one behind the other, are read as these, and nothing waits. No condition but the form's own reach. -/
import Derived.Test.YthajnfmbgmmncaaFrq
import Derived.Deep.Slices
import Derived.Deep.Fields
import Derived.ChangeSame
import Derived.Lib.SmallJoins
import Derived.SizedLaws
import Derived.ChangeOld
import Derived.Carry
namespace Go.Proofs.Ythajnfmbgmmncaa.frameBack
open Go.ChangeShapes Go.WideShapes Go.ChangeAt Go.RowKit
open Go.ChangeMaps (open_string shut_string)
open Go.Deep
set_option linter.unusedVariables false

theorem u8_of (n : Int) (h : (Lit.int .u8 n).wf = true) : ∃ k : UInt8, Value.int .u8 n = u8 k := by
  have hb : 0 ≤ n ∧ n < 256 := by simp [Lit.wf, IntKind.min, IntKind.max, IntKind.signed, IntKind.bits] at h; omega
  refine ⟨UInt8.ofNat n.toNat, ?_⟩
  unfold u8
  have : (UInt8.ofNat n.toNat).toNat = n.toNat := by simp [UInt8.toNat_ofNat']; omega
  rw [this, Int.toNat_of_nonneg hb.1]
def Fits (w : World) (v : Value) : Prop := ∃ ms : List Msg, MR w v ms ∧ ∀ m ∈ ms, m.2.length ≤ 140737488351232
theorem weightsAll_mem {H : Type} {P : Program} {e : TypeId} : ∀ {l : List (DataW H)} {d : DataW H}, d ∈ l → ∀ n ∈ d.weights P e, n ∈ DataW.weightsAll P e l
  | [], _, h, _, _ => by cases h
  | x :: r, d, h, n, hn => by
    rcases List.mem_cons.1 h with rfl | h
    · simp [DataW.weightsAll, hn]
    · simp [DataW.weightsAll, weightsAll_mem h n hn]
theorem one_msg {H : Type} {enc : TypeId × Value → H} {W : World} {n : Nat} {cs : List Value} {D : DataW H} {p : List MemPlace} (ht : DataW.trod enc Try.prog W 0 (fun _ => true) true n 39 cs = some (D, p)) :
    ∃ (k : UInt8) (b : ByteArray), cs[0]? = some (u8 k) ∧ cs[1]? = some (.string b) ∧ b.data.toList.length ∈ D.weights Try.prog 39 := by
  obtain ⟨xs, m, _, hx, hl, hxl, hf⟩ := DataW.trod_struct Try.underlying39 ht
  match xs, hxl with
  | [y0, y1], _ =>
    have h0 : DataW.trod enc Try.prog W 0 (fun _ => true) true m 5 (List.take (Try.prog.cellsOf 5) (List.drop 0 cs)) = some y0 := hf 0 _ rfl
    have h1 : DataW.trod enc Try.prog W 0 (fun _ => true) true m 9 (List.take (Try.prog.cellsOf 9) (List.drop 1 cs)) = some y1 := hf 1 _ rfl
    rw [show Try.prog.cellsOf 5 = 1 by kernel_rfl, List.drop_zero] at h0
    rw [show Try.prog.cellsOf 9 = 1 by kernel_rfl] at h1
    obtain ⟨x, e0, _, w0⟩ := DataW.trod_int Try.underlying5 h0
    obtain ⟨b, e1, d1, _⟩ := DataW.trod_string Try.underlying9 h1
    obtain ⟨k, hk⟩ := u8_of x w0
    simp only [Prod.mk.injEq] at hx
    refine ⟨k, b, ?_, ?_, ?_⟩
    · rw [← hk]
      have := congrArg (·[0]?) e0
      simpa using this
    · have := congrArg (·[0]?) e1
      simpa using this
    · rw [hx.1]
      simp only [List.map_cons, List.map_nil, DataW.weights, Try.underlying39]
      rw [d1]
      simp [DataW.weights, DataW.weightsEach]
theorem opened {H : Type} {enc : TypeId × Value → H} {W : World} {base : Nat} {v : Value} {d : DataW H} {p : List MemPlace} (hv : Value.okWide Try.prog W .any base 31 v)
    (h : DataW.Trod enc Try.prog W 0 (fun _ => true) true 31 v d p) (hz : (DataW.weights Try.prog 31 d).all (· ≤ reachBytes) = true) : Fits W v := by
  obtain ⟨a, ln, cp, rfl⟩ := okWide_slice Try.underlying31 hv
  obtain ⟨fuel, hf⟩ := h
  rcases open_slice Try.underlying31 hf with ⟨e, _⟩ | ⟨ad, len, cap, m, n, D, Pl, hcs, hb, hl, hm, hmm, hx, hi⟩
  · simp [Value.cells] at e
    obtain ⟨rfl, rfl, rfl⟩ := e
    exact ⟨[], .inl ⟨_, _, rfl, rfl⟩, fun m hm => by cases hm⟩
  · simp [Value.cells] at hcs
    obtain ⟨rfl, rfl, rfl⟩ := hcs
    simp only [Prod.mk.injEq] at hx
    have hC : Try.prog.cellsOf 39 = 2 := by kernel_rfl
    rw [hC] at hi
    have hlm : ln ≤ m := by rw [hmm]; simp; exact hl
    have key : ∀ j, j ≤ ln → ∃ ms : List Msg, ms.length = j ∧ ∀ (i : Nat) (x : Msg), ms[i]? = some x → W.cell? (ad.add (i * 2)) = some (u8 x.1) ∧ W.cell? ((ad.add (i * 2)).add 1) = some (.string (ba x.2)) ∧ x.2.length ≤ 140737488351232 := by
      intro j
      induction j with
      | zero => intro _; exact ⟨[], rfl, fun i x hi => by simp at hi⟩
      | succ j ih =>
        intro hj
        obtain ⟨ms, h1, h2⟩ := ih (by omega)
        obtain ⟨cs', hc, ht⟩ := hi j (by omega)
        obtain ⟨_, hcl, hat⟩ := World.cells?_some hc
        obtain ⟨k, b, e0, e1, hwt⟩ := one_msg ht
        refine ⟨ms ++ [(k, b.data.toList)], by simp [h1], fun i x hx' => ?_⟩
        by_cases hij : i < ms.length
        · rw [List.getElem?_append_left hij] at hx'
          exact h2 i x hx'
        · have hlt := (List.getElem?_eq_some_iff.1 hx').1
          have hie : i = j := by simp at hlt; omega
          subst hie
          rw [List.getElem?_append_right (by omega), h1, Nat.sub_self] at hx'
          simp at hx'
          subst hx'
          have a0 := hat 0 (by omega)
          have a1 := hat 1 (by omega)
          rw [e0] at a0
          rw [e1] at a1
          refine ⟨by simpa [Addr.add] using a0, by rw [ba_of]; exact a1, ?_⟩
          have hmem : D i ∈ (List.range ln).map D := List.mem_map.2 ⟨i, List.mem_range.2 (by omega), rfl⟩
          have := List.all_eq_true.1 hz _ (by
            rw [hx.1]
            simp only [DataW.weights, Try.underlying31]
            exact List.mem_cons_of_mem _ (List.mem_append_left _ (weightsAll_mem hmem _ hwt)))
          exact of_decide_eq_true this
    obtain ⟨ms, h1, h2⟩ := key ln (Nat.le_refl _)
    refine ⟨ms, ?_, fun x hx' => ?_⟩
    · by_cases h0 : ms = []
      · subst h0
        exact .inl ⟨_, _, by rw [← h1]; rfl, rfl⟩
      · obtain ⟨x, hx0⟩ : ∃ x, ms[0]? = some x := ⟨ms[0]'(by cases ms; exact absurd rfl h0; simp), List.getElem?_eq_getElem _⟩
        obtain ⟨c0, _⟩ := h2 0 x hx0
        have hsp : ad.spot = none := by
          have hcell : (W.cell? (ad.add (0 * 2))).isSome = true := by rw [c0]; rfl
          have e : ad.add (0 * 2) = ad := by simp [Addr.add]
          rw [e] at hcell
          unfold World.cell? at hcell
          cases hs : ad.spot with
          | none => rfl
          | some q => rw [hs] at hcell; revert hcell; split <;> simp
        obtain ⟨bl, of, sp⟩ := ad
        simp only at hsp
        subst hsp
        refine .inr ⟨bl, of, cp, by rw [h1], by omega, fun i y hy => ?_⟩
        obtain ⟨d0, d1, _⟩ := h2 i y hy
        rw [Addr.add_lit] at d0 d1
        rw [Addr.add_lit] at d1
        exact ⟨d0, d1⟩
    · obtain ⟨i, hi'⟩ := List.getElem?_of_mem hx'
      exact (h2 i x hi').2.2

theorem mr_below {w w' : World} {v : Value} {ms : List Msg} (h : MR w v ms) (hb : Below w.heap.size w w') : MR w' v ms :=
  h.keep fun p hp => by
    obtain ⟨u, hu⟩ := Option.isSome_iff_exists.1 hp
    exact hb.cell (World.block_lt_of_cell? w p hu)
theorem put_le (m : Msg) : (putL m).length ≤ 4097 := by
  unfold putL
  by_cases h : rightL m = true
  · rw [if_pos h]
    have hl : m.2.length ≤ 4092 := by simp [rightL] at h; exact h.2
    by_cases h0 : m.1 = 0
    · rw [if_pos h0]; simp only [List.nil_append, List.length_append, put_len]; omega
    · rw [if_neg h0]; simp only [List.length_append, List.length_singleton, put_len]; omega
  · rw [if_neg h]; simp
theorem all_append (a b : List Msg) : allL (a ++ b) = allL a ++ allL b := by
  induction a with
  | nil => rfl
  | cons x r ih => show putL x ++ allL (r ++ b) = _; rw [ih, ← List.append_assoc]; rfl
theorem all_le (a : List Msg) : (allL a).length ≤ a.length * 4097 := by
  induction a with
  | nil => simp [allL]
  | cons x r ih => have := put_le x; simp only [allL, List.length_append, List.length_cons] at ih ⊢; omega
theorem all_snoc (ms : List Msg) (k : Nat) (h : k < ms.length) : ba (allL (ms.take k)) ++ ba (putL ms[k]) = ba (allL (ms.take (k + 1))) := by
  rw [ba_append, List.take_succ_eq_append_getElem h, all_append]
  congr 2
  simp [allL]

/-- the first k messages are right, and just the first one may be a first one -/
def Good (ms : List Msg) (k : Nat) : Prop := ∀ (j : Nat) (m : Msg), j < k → ms[j]? = some m → rightL m = true ∧ (m.1 = 0 → j = 0)
theorem good_feed (ms : List Msg) (h : Good ms ms.length) (h0 : ms ≠ []) : ∃ f, feedL (allL ms) (decide ((ms.headD (1, [])).1 = 0)) = (ms, [], f, 0) := by
  cases ms with
  | nil => exact absurd rfl h0
  | cons m r =>
    refine feed_all_first m r (h 0 m (by simp) rfl).1 (fun x hx => ?_)
    obtain ⟨i, hi⟩ := List.getElem?_of_mem hx
    have hlt := (List.getElem?_eq_some_iff.1 hi).1
    have := h (i + 1) x (by simp; omega) (by simpa using hi)
    exact ⟨this.1, fun e => by have := this.2 e; omega⟩

set_option maxHeartbeats 1000000 in
set_option maxRecDepth 100000 in
theorem walk_nil (A : Option Addr) (cap : Nat) (w : World) :
    Calls Try.prog 6 #[.slice A 0 cap] w fun e w' => e = .returned (.bool true) ∧ Below w.heap.size w w' := by
  have hF : fed [] false 0 (ba []).data.toList = ([], [], false, 0) := by
    have h2 : aheadL [] false = ((0, []), 0, 0) := by decide +kernel
    show feedL [] false = _
    rw [feedL_stop (by rw [h2]), h2]
  have hN : MR w (.slice A 0 cap) [] := .inl ⟨_, _, rfl, rfl⟩
  go_enter Try.func6, Try.ntmps6
  go_wp2
  go_loop [3, 4] (fun s i => i = .int .i64 0 ∧ s = .string ⟨#[]⟩) (fun _ _ => 0)
  case atStart => exact ⟨rfl, rfl⟩
  case round =>
    obtain ⟨rfl, rfl⟩ := hrel
    go_wp2_with fail
    refine (new_any _ _).mono ?_; rintro e w1 ⟨g, rfl, hg, hR, hB⟩
    go_wp2_with fail
    refine (feed_out g _ _ _ _ _ _ _ _ _ hR (by decide) hF).mono ?_; rintro e w2 ⟨v2, rfl, hM, hR2, hg2⟩
    replace hB := below_gb hB hg2 hB.size hg
    clear hR hg2
    go_wp2_with fail
    refine (same_bel _ _ [] _ (.inl ⟨_, _, rfl, rfl⟩) (MR.own hM) (by decide)).mono ?_; rintro e w3 ⟨rfl, hb3⟩
    replace hB := hB.trans (hb3.mono hB.size)
    replace hR2 := hR2.below hb3
    clear hb3 hM
    go_wp2_with (first
      | (go_at_call 14; refine (rest_yes _ _ _ _ _ hR2).mono ?_; rintro e w4 ⟨rfl, rfl⟩; rw [ba_nil])
      | (go_at_call 8; refine (known_any _).mono ?_; rintro e w5 ⟨rfl, hb⟩))
    go_ret
    exact ⟨rfl, hB.trans (hb.mono hB.size)⟩

theorem good_step (ms : List Msg) (k : Nat) (hk : k < ms.length) (h : Good ms k) (hr : rightL ms[k] = true) (h0 : ms[k].1 = 0 → k = 0) : Good ms (k + 1) := by
  intro j m hj hm
  by_cases hjk : j < k
  · exact h j m hjk hm
  · obtain rfl : j = k := by omega
    rw [List.getElem?_eq_getElem hk] at hm
    injection hm with hm
    subst hm
    exact ⟨hr, h0⟩
/-- messages that lie in rows of messages stay while a reader is fed -/
theorem mr_feed {w w' : World} {g h off cap : Nat} {ms : List Msg} (hm : MR w (.slice (some ⟨h, off, none⟩) ms.length cap) ms) (hne : h ≠ g) (hg : w.grownBy w' (some g)) : MR w' (.slice (some ⟨h, off, none⟩) ms.length cap) ms := by
  rcases hm with ⟨A, c, e1, e2⟩ | ⟨h', off', cap', e, hc, hcell⟩
  · exact .inl ⟨A, c, e1, e2⟩
  · injection e with e1 e2 e3
    injection e1 with e1
    injection e1 with e4 e5
    subst e4 e5
    refine .inr ⟨h, off, cap', by subst e3; rfl, hc, fun i m hi => ?_⟩
    obtain ⟨a, b⟩ := hcell i m hi
    have hk : w'.heap[h]? = w.heap[h]? := hg.block h (World.block_lt_of_cell? w ⟨h, off + i * 2, none⟩ a) (by simpa using hne)
    exact ⟨(World.cell?_of_block (a := ⟨h, off + i * 2, none⟩) hk).trans a, (World.cell?_of_block (a := ⟨h, off + i * 2 + 1, none⟩) hk).trans b⟩
def Rel (h off cap : Nat) (ms : List Msg) (w0 : World) (sv i : Value) (wr : World) : Prop :=
  ∃ k, k ≤ ms.length ∧ i = .int .i64 (k : Nat) ∧ sv = .string (ba (allL (ms.take k))) ∧ MR wr (.slice (some ⟨h, off, none⟩) ms.length cap) ms ∧ Below w0.heap.size w0 wr ∧ Good ms k
theorem mr_cells {w : World} {h off cap : Nat} {ms : List Msg} (hm : MR w (.slice (some ⟨h, off, none⟩) ms.length cap) ms) (k : Nat) (hk : k < ms.length) :
    w.cell? ⟨h, off + k * 2, none⟩ = some (.int .u8 (ms[k].1.toNat : Int)) ∧ w.cell? ⟨h, off + k * 2 + 1, none⟩ = some (.string (ba ms[k].2)) := by
  rcases hm with ⟨_, _, _, e⟩ | ⟨h', off', cap', e, _, hc⟩
  · subst e; simp at hk
  · injection e with e1 e2 e3
    injection e1 with e1
    injection e1 with e4 e5
    subst e4 e5
    exact hc k ms[k] (List.getElem?_eq_getElem hk)

set_option maxHeartbeats 2000000 in
set_option maxRecDepth 100000 in
theorem walk_some (h off cap : Nat) (ms : List Msg) (w : World) (hm : MR w (.slice (some ⟨h, off, none⟩) ms.length cap) ms) (h0 : ms ≠ []) (hz : ∀ m ∈ ms, m.2.length ≤ 140737488351232) :
    Calls Try.prog 6 #[.slice (some ⟨h, off, none⟩) ms.length cap] w fun e w' => e = .returned (.bool true) ∧ Below w.heap.size w w' := by
  by_cases hl : 30 < ms.length
  · clear hm h0 hz
    go_enter Try.func6, Try.ntmps6
    go_wp2_with (go_at_call 8; refine (known_any _).mono ?_; rintro e w5 ⟨rfl, hb⟩)
    go_ret
    exact ⟨rfl, hb⟩
  · have hl2 : ms.length ≤ 30 := by omega
    have hpos : 0 < ms.length := List.length_pos_iff.2 h0
    clear hl
    go_enter Try.func6, Try.ntmps6
    go_wp2
    go_loopw [3, 4] (Rel h off cap ms w) (fun _ i _ => ms.length - (intOf i).toNat)
    case atStart => exact ⟨0, Nat.zero_le _, rfl, rfl, hm, Below.refl _ _, fun j m hj => by omega⟩
    case round =>
      obtain ⟨k, hk, rfl, rfl, hmr, hB, hG⟩ := hrel
      have hal := all_le (ms.take k)
      rw [List.length_take] at hal
      have hsz : (ba (allL (ms.take k))).size ≤ 122910 := by rw [ba_size]; omega
      clear hal
      by_cases hlt : k < ms.length
      · obtain ⟨x1, x2⟩ := mr_cells hmr k hlt
        have hget : ms[k]? = some ms[k] := List.getElem?_eq_getElem hlt
        have hbz : (ba ms[k].2).size ≤ 281474976710656 := by rw [ba_size]; have := hz ms[k] (List.getElem_mem hlt); omega
        have dR := fun w => right_any ms[k].1 (ba ms[k].2) w hbz
        have dP := fun w => put_any ms[k].1 (ba ms[k].2) w hbz
        rw [ba_list] at dR dP
        rw [show (ms[k].1, ms[k].2) = ms[k] from rfl] at dR dP
        have hpl : (ba (putL ms[k])).size ≤ 4097 := by rw [ba_size]; exact put_le _
        have hsn := Lib.hid (all_snoc ms k hlt)
        have HG := Lib.hid hG
        have HK := Lib.hid hget
        have hz0 : decide (ms[k].1 = 0) = ((ms[k].1.toNat : Int) == 0) := by rw [Bool.eq_iff_iff]; simp [← UInt8.toNat_inj]
        clear hG hget hm hz
        unfold u8 at dR dP
        cases hr : rightL ms[k]
        · rw [hr] at dR
          clear hr hz0
          generalize (ms[k].1.toNat : Int) = kk at *
          generalize ba ms[k].2 = bb at *
          generalize ba (putL ms[k]) = pp at *
          generalize ba (allL (ms.take k)) = ss at *
          go_wp2_with (first
            | (go_at_call 16; refine (dR _).mono ?_; rintro e w1 ⟨rfl, hb1⟩)
            | (go_at_call 8; refine (known_any _).mono ?_; rintro e w5 ⟨rfl, hb⟩))
          go_ret
          exact ⟨rfl, (hB.trans (hb1.mono hB.size)).trans (hb.mono (hB.trans (hb1.mono hB.size)).size)⟩
        · rw [hr] at dR
          have HR := Lib.hid hr
          clear hr
          cases hkd : decide (ms[k].1 = 0)
          · have e0 : ((ms[k].1.toNat : Int) == 0) = false := by rw [← hz0, hkd]
            have HD := Lib.hid (of_decide_eq_false hkd)
            clear hz0 hkd
            have HH : h < wr.heap.size := World.block_lt_of_cell? wr _ x1
            have hh : h < wr.heap.size := HH
            have HGn : Good ms (k + 1) := good_step ms k hlt HG.out HR.out (fun e => absurd e HD.out)
            have HGN := Lib.hid HGn
            clear HH HGn HG HK HD HR
            generalize (ms[k].1.toNat : Int) = kk at *
            generalize ba ms[k].2 = bb at *
            generalize ba (putL ms[k]) = pp at *
            generalize hss : ba (allL (ms.take k)) = ss at *
            clear hss
            go_wp2_with (first
              | (go_at_call 16; refine (dR _).mono ?_; rintro e w1 ⟨rfl, hb1⟩; have hm1 := mr_below hmr hb1; have y1 := (hb1.cell (p := ⟨h, off + k * 2, none⟩) hh).trans x1; have y2 := (hb1.cell (p := ⟨h, off + k * 2 + 1, none⟩) hh).trans x2)
              | (go_at_call 18; refine (dP _).mono ?_; rintro e w2 ⟨rfl, hb2⟩; have hm2 := mr_below hm1 hb2))
            go_roundw
            case rel => exact ⟨k + 1, hlt, by go_num, by rw [hsn.out], hm2, (hB.trans (hb1.mono hB.size)).trans (hb2.mono (hB.trans (hb1.mono hB.size)).size), HGN.out⟩
            case measure => simp [intOf]; omega
          · have e0 : ((ms[k].1.toNat : Int) == 0) = true := by rw [← hz0, hkd]
            clear hz0 hkd
            have hh : h < wr.heap.size := World.block_lt_of_cell? wr _ x1
            by_cases hk0 : 0 < k
            · clear HG HK HR
              generalize (ms[k].1.toNat : Int) = kk at *
              generalize ba ms[k].2 = bb at *
              generalize ba (putL ms[k]) = pp at *
              generalize hss : ba (allL (ms.take k)) = ss at *
              clear hss
              go_wp2_with (first
                | (go_at_call 16; refine (dR _).mono ?_; rintro e w1 ⟨rfl, hb1⟩; have hm1 := mr_below hmr hb1; have y1 := (hb1.cell (p := ⟨h, off + k * 2, none⟩) hh).trans x1; have y2 := (hb1.cell (p := ⟨h, off + k * 2 + 1, none⟩) hh).trans x2)
                | (go_at_call 8; refine (known_any _).mono ?_; rintro e w5 ⟨rfl, hb⟩))
              go_ret
              exact ⟨rfl, (hB.trans (hb1.mono hB.size)).trans (hb.mono (hB.trans (hb1.mono hB.size)).size)⟩
            · have hk1 : k ≤ 0 := by omega
              have hk2 : decide ((0 : Int) < (k : Int)) = false := by simp; omega
              have HGn : Good ms (k + 1) := good_step ms k hlt HG.out HR.out (fun _ => by omega)
              have HGN := Lib.hid HGn
              clear HGn HG HK HR hk0
              generalize (ms[k].1.toNat : Int) = kk at *
              generalize ba ms[k].2 = bb at *
              generalize ba (putL ms[k]) = pp at *
              generalize hss : ba (allL (ms.take k)) = ss at *
              clear hss
              go_wp2_with (first
                | (go_at_call 16; refine (dR _).mono ?_; rintro e w1 ⟨rfl, hb1⟩; have hm1 := mr_below hmr hb1; have y1 := (hb1.cell (p := ⟨h, off + k * 2, none⟩) hh).trans x1; have y2 := (hb1.cell (p := ⟨h, off + k * 2 + 1, none⟩) hh).trans x2)
                | (go_at_call 18; refine (dP _).mono ?_; rintro e w2 ⟨rfl, hb2⟩; have hm2 := mr_below hm1 hb2))
              go_roundw
              case rel => exact ⟨k + 1, hlt, by go_num, by rw [hsn.out], hm2, (hB.trans (hb1.mono hB.size)).trans (hb2.mono (hB.trans (hb1.mono hB.size)).size), HGN.out⟩
              case measure => simp [intOf]; omega
      · obtain rfl : k = ms.length := by omega
        rw [List.take_length] at hsz ⊢
        obtain ⟨f, hf⟩ := good_feed ms hG h0
        have hhl : h < wr.heap.size := World.block_lt_of_cell? wr _ (mr_cells hmr 0 hpos).1
        obtain ⟨x1, x2⟩ := mr_cells hmr 0 hpos
        rw [Nat.zero_mul, Nat.add_zero] at x1
        have hhead : ms[0] = ms.headD (1, []) := by
          cases ms with
          | nil => exact absurd rfl h0
          | cons m r => rfl
        have hz0 : decide ((ms.headD (1, [])).1 = 0) = ((ms[0].1.toNat : Int) == 0) := by rw [hhead, Bool.eq_iff_iff]; simp [← UInt8.toNat_inj]
        rw [hz0] at hf
        have HF : fed [] ((ms[0].1.toNat : Int) == 0) 0 (ba (allL ms)).data.toList = (ms, [], f, 0) := by rw [ba_list]; exact hf
        have HX := Lib.hid HF
        have hsz2 : (ba (allL ms)).size ≤ 122910 := hsz
        clear HF hf hz0 hhead x2 hG hsz hm hz
        generalize ba (allL ms) = ss at *
        generalize ((ms[0].1.toNat : Int)) = kk at *
        go_wp2_with fail
        refine (new_any _ _).mono ?_; rintro e w1 ⟨g, rfl, hg, hR, hB1⟩
        replace hmr := mr_below hmr hB1
        have hgw : w.heap.size ≤ g := Nat.le_trans hB.size hg
        replace hB := hB.trans (hB1.mono hB.size)
        clear hB1
        go_wp2_with fail
        refine (feed_out g _ _ _ _ _ _ _ _ _ hR (by simp; omega) HX.out).mono ?_; rintro e w2 ⟨v2, rfl, hM, hR2, hg2⟩
        have hhg : h ≠ g := by omega
        have hmr2 := mr_feed hmr hhg hg2
        replace hB := below_gb hB hg2 hB.size hgw
        clear hR hg2 hmr
        go_wp2_with fail
        refine (same_bel _ _ ms _ hmr2 (MR.own hM) (by omega)).mono ?_; rintro e w3 ⟨rfl, hb3⟩
        replace hB := hB.trans (hb3.mono hB.size)
        replace hR2 := hR2.below hb3
        clear hb3 hM hmr2
        go_wp2_with (first
          | (go_at_call 14; refine (rest_yes _ _ _ _ _ hR2).mono ?_; rintro e w4 ⟨rfl, rfl⟩; rw [ba_nil])
          | (go_at_call 8; refine (known_any _).mono ?_; rintro e w5 ⟨rfl, hb⟩))
        go_ret
        exact ⟨rfl, hB.trans (hb.mono hB.size)⟩

theorem walk (v : Value) {w : World} (hv : Fits w v) (w' : World) (hw : w' = w := by rfl) :
    Calls Try.prog 6 #[v] w' fun e w2 => e = .returned (.bool true) ∧ Below w'.heap.size w' w2 := by
  subst hw
  obtain ⟨ms, hm, hz⟩ := hv
  by_cases h0 : ms = []
  · subst h0
    obtain ⟨a, c, rfl⟩ := hm.form
    exact walk_nil a c _
  · rcases hm with ⟨_, _, _, e⟩ | ⟨h, off, cap, rfl, hc, hcell⟩
    · exact absurd e h0
    · exact walk_some h off cap ms _ (.inr ⟨h, off, cap, rfl, hc, hcell⟩) h0 hz

theorem own : ownKnob Try.prog.godebug = none := by kernel_rfl
theorem laidOut : laidOutB Try.prog = true := by kernel_rfl
theorem weights_at {H : Type} {P : Program} {ts : List TypeId} {ds : List (DataW H)} (h : (DataW.weightsEach P ts ds).all (· ≤ reachBytes) = true) (j : Nat) {t : TypeId} {d : DataW H} (ht : ts[j]? = some t) (hd : ds[j]? = some d) : (DataW.weights P t d).all (· ≤ reachBytes) = true :=
  List.all_eq_true.2 fun x hx => List.all_eq_true.1 h x (DataW.weights_mem_each ht hd x hx)

set_option maxRecDepth 100000 in
theorem lifted (os : Os) (started : os.Started) (H : Type) (enc : TypeId × Value → H) :
    ReturnsInHanded {} Try.checked os 6 .any (Rows.frameBackSpec.pre6 enc Try.prog Try.f6 Rows.frameBackRow.domain false) (Rows.frameBackSpec.post enc Try.prog Try.f6 false true false false) := by
  refine returnsInHanded_of_change_sized (C := Try.checked) own started (by kernel_rfl) Try.func6
    (ChangeSpec.witness6 (enc := enc) (C := Try.checked) false ⟨#[], #[.slice none 0 0], []⟩ 8 (by kernel_rfl) (by kernel_rfl) (by kernel_rfl) (by kernel_rfl)) ?_
  intro W base args ds gs before hval0 hW hcnd hsz0 _
  have hsz : (DataW.weightsEach Try.prog (Try.f6.params.toList ++ Rows.frameBackSpec.plain.varTypes Try.prog) (ds ++ gs)).all (· ≤ reachBytes) = true := hsz0
  clear hsz0
  have hval : ∀ (j : Nat) t v, Try.f6.params[j]? = some t → args[j]? = some v → Value.okWide Try.prog W .any base t v := hval0
  have hW' := hW
  obtain ⟨p, q, hA0, hV, rfl, hfz, hnd⟩ := hW
  have hA : DataW.TrodAll enc Try.prog W 0 (fun _ => true) true Try.f6.params.toList args.toList ds p := hA0
  rw [Try.params6] at hA hval hsz
  obtain ⟨v0, vs0, d0, ds0, p0, q0, hargs, rfl, rfl, h0, r0⟩ := trodAll_cons hA
  obtain ⟨rfl, rfl, rfl⟩ := trodAll_nil r0
  obtain rfl : args = #[v0] := by cases args; simp_all
  obtain ⟨rfl, rfl⟩ := trodVars_none hV
  have k0 := h0
  have lt0 : ∀ x ∈ p0, x.block < W.heap.size := by obtain ⟨m, hm⟩ := k0; exact DataW.trod_lt m _ _ _ hm
  have f0 := opened (hval 0 31 v0 rfl rfl) h0 (weights_at hsz 0 rfl rfl)
  clear hA0 hval0
  refine (walk v0 f0 W).mono fun e W' ⟨he, bel⟩ => ?_
  subst he
  exact ⟨_, rfl, _, _, _, [], _, [], hW', trodAll_mk1 (shut_bool Try.underlying4 _), (trodAll_cons_mk (Below.trod laidOut (by kernel_rfl) (of_decide_eq_true (by kernel_rfl)) k0 bel lt0) trodAll_mk0), rfl, bel.frame _, fun h => by cases h⟩

theorem over : Rows.frameBackRow.holds Try.pinned (OpenSpec.ofChange Rows.frameBackSpec) :=
  OpenClaim.holds_of_wide 6 Try.f6 rfl rfl rfl rfl rfl rfl rfl ⟨rfl, rfl, rfl, rfl, rfl⟩ rfl rfl rfl rfl rfl (by kernel_rfl) Try.func6 (by kernel_rfl)
    (of_decide_eq_true (by kernel_rfl)) (by unfold Func.isWrapper; rw [if_neg (by decide +kernel)]; exact ⟨rfl, rfl⟩)
    (fun os started H enc _ => lifted os started H enc)

theorem proved : Rows.FrameBackSaid := over
end Go.Proofs.Ythajnfmbgmmncaa.frameBack
