/- What must come of fixed calls at layer 5 (known): it tells true. Condition: the word of bytealg.
   For a law whose statement is a tied card: the wrap that hands the walk the world's shape and what is laid; the word of bytealg.
   An argument of tokens, opened. Condition: none.
   Arguments that are texts, or truths, opened; what Fill makes, in plain words. Condition: none.
   A list of tokens that the call made, whose places are raised by one, token by token. Condition: none.
   A text's normal form is scanned as the tokens that it shows, and is its own normal form: in plain words. Condition: none.
   Quotes, dollars; blanks and a remark ahead of a text: in plain words. Condition: none. -/
import Derived.Test.YtgnpkpboilnijaaGreatDoorG25
import Derived.KernelRfl
import Derived.Test.YtgnpkpboilnijaaGreatDoorG17
import Derived.Test.YtgnpkpboilnijaaGreatDoorTie
import Derived.Test.YtgnpkpboilnijaaGreatDoorCards
import Derived.HandedShaped
import Derived.Handed
import Derived.Lay
import Derived.LaidMore
import Derived.SevenTiedAt
import Derived.Shelf.Vars
import Derived.SizedLaws
import Derived.ChangeOld
import Derived.Carry
import Derived.Deep.Slices
import Derived.Deep.Fields
import Derived.ChangeSame
import Derived.Lib.SmallJoins
import Derived.Test.YtgnpkpboilnijaaGreatDoorG24
import Derived.Test.YtgnpkpboilnijaaGreatDoorG18
set_option linter.unusedSimpArgs false
set_option linter.unusedVariables false
namespace Go.Proofs.YtgnpkpboilnijaaGreatDoor
open Go.ChangeShapes Go.WideShapes Go.ChangeAt Go.RowKit
set_option maxRecDepth 100000
set_option linter.unusedVariables false
set_option linter.unusedSimpArgs false

abbrev k5a : ByteArray := ⟨#[83, 69, 76, 69, 67, 84, 32, 32, 48, 48, 55, 46, 53, 48, 32, 44, 32, 48, 46, 48, 32, 59, 59]⟩
abbrev k5c : ByteArray := ⟨#[97, 32, 61, 32, 36, 50, 32, 111, 114, 32, 98, 32, 61, 32, 36, 49]⟩
def k5L : List Tok := [(1, ⟨#[97]⟩, 0), (5, ⟨#[61]⟩, 2), (5, ⟨#[36, 50]⟩, 4), (1, ⟨#[111, 114]⟩, 7), (1, ⟨#[98]⟩, 10), (5, ⟨#[61]⟩, 12), (5, ⟨#[36, 49]⟩, 14)]
def k5M : List Tok := [(1, ⟨#[97]⟩, 0), (5, ⟨#[61]⟩, 2), (1, ⟨#[110, 117, 108, 108]⟩, 4), (1, ⟨#[111, 114]⟩, 7), (1, ⟨#[98]⟩, 10), (5, ⟨#[61]⟩, 12), (3, ⟨#[120]⟩, 14)]
theorem k5a_eq : formA k5a = ([115, 101, 108, 101, 99, 116, 32, 55, 46, 53, 32, 44, 32, 48], 0) := by kernel_rfl
theorem k5b_eq : formA ⟨#[39]⟩ = ([], 6) := by kernel_rfl
theorem k5c_eq : scanA k5c = (k5L, 0, 0) := by kernel_rfl
theorem k5f_eq : fillA k5L [⟨#[120]⟩, ⟨#[]⟩] [false, true] = (k5M, 0) := by kernel_rfl
theorem k5g_eq : fillA k5L [⟨#[120]⟩] [false] = ([], 8) := by kernel_rfl
theorem k5n_eq : bindsL k5L = 2 := by kernel_rfl
theorem k5t_eq : bb (showL (tokensL k5M)) = ⟨#[97, 32, 61, 32, 110, 117, 108, 108, 32, 111, 114, 32, 98, 32, 61, 32, 39, 120, 39]⟩ := by kernel_rfl
theorem k5_small : ∀ t ∈ k5L, t.2.1.size ≤ 65536 := by
  have h : (k5L.all fun t => decide (t.2.1.size ≤ 65536)) = true := by kernel_rfl
  exact fun t ht => of_decide_eq_true (List.all_eq_true.1 h t ht)
theorem k5m_small : ∀ t ∈ k5M, t.2.1.size ≤ 65536 := by
  have h : (k5M.all fun t => decide (t.2.1.size ≤ 65536)) = true := by kernel_rfl
  exact fun t ht => of_decide_eq_true (List.all_eq_true.1 h t ht)
theorem cr_block {w : World} {g : Nat} {xs : List Value} {T : TypeId} (hb : w.heap[g]? = some (.cells xs.toArray T (0, 0))) : CR w (.slice (some ⟨g, 0, none⟩) xs.length xs.length) xs := by
  refine .inr ⟨g, 0, xs.length, rfl, Nat.le_refl _, fun i x hi => ?_⟩
  rw [Nat.zero_add, Lib.cell_of_heap hb]
  simpa using hi
theorem form_ka (m : Int) (w : World) (hm : Wd m w) : Calls Tryz.prog 9 #[.string k5a] w fun e w' => e = .returned (.tuple #[.string ⟨#[115, 101, 108, 101, 99, 116, 32, 55, 46, 53, 32, 44, 32, 48]⟩, .int .i64 0]) ∧ Below w.heap.size w w' := by
  have := form_any k5a m w hm
  rw [k5a_eq] at this
  exact this
theorem form_kb (m : Int) (w : World) (hm : Wd m w) : Calls Tryz.prog 9 #[.string ⟨#[39]⟩] w fun e w' => e = .returned (.tuple #[.string ⟨#[]⟩, .int .i64 6]) ∧ Below w.heap.size w w' := by
  have := form_any ⟨#[39]⟩ m w hm
  rw [k5b_eq] at this
  exact this
theorem scan_kc (w : World) : Calls Tryz.prog 18 #[.string k5c] w fun e w' => ∃ v, e = .returned (.tuple #[v, .int .i64 0, .int .i64 0]) ∧ TR w' v k5L ∧ Below w.heap.size w w' := by
  have : Calls Tryz.prog 18 #[.string k5c] w fun e w' => ∃ v, e = .returned (.tuple #[v, .int .i64 (scanA k5c).2.1, .int .i64 (scanA k5c).2.2]) ∧ TR w' v (scanA k5c).1 ∧ Below w.heap.size w w' := rscan_any k5c w
  rw [k5c_eq] at this
  exact this
theorem fill_kf (v : Value) (w : World) (h : TR w v k5L) : Calls Tryz.prog 13 #[v, .slice (some ⟨w.heap.size, 0, none⟩) 2 2, .slice (some ⟨w.heap.size + 1, 0, none⟩) 2 2] ((w.alloc (.cells #[.string ⟨#[120]⟩, .string ⟨#[]⟩] 9)).alloc (.cells #[.bool false, .bool true] 4))
    fun e w' => ∃ u, e = .returned (.tuple #[u, .int .i64 0]) ∧ TR w' u k5M ∧ Below w.heap.size w w' := by
  have hb : Below w.heap.size w ((w.alloc (.cells #[.string ⟨#[120]⟩, .string ⟨#[]⟩] 9)).alloc (.cells #[.bool false, .bool true] 4)) := ((Below.refl _ _).alloc (Nat.le_refl _) _).alloc (by simp) _
  have h1 : CR ((w.alloc (.cells #[.string ⟨#[120]⟩, .string ⟨#[]⟩] 9)).alloc (.cells #[.bool false, .bool true] 4)) (.slice (some ⟨w.heap.size, 0, none⟩) 2 2) (([⟨#[120]⟩, ⟨#[]⟩] : List ByteArray).map .string) :=
    cr_block (xs := [.string ⟨#[120]⟩, .string ⟨#[]⟩]) (T := 9) (by show ((w.heap.push _).push _)[w.heap.size]? = _; simp [Array.getElem?_push])
  have h2 : CR ((w.alloc (.cells #[.string ⟨#[120]⟩, .string ⟨#[]⟩] 9)).alloc (.cells #[.bool false, .bool true] 4)) (.slice (some ⟨w.heap.size + 1, 0, none⟩) 2 2) (([false, true] : List Bool).map .bool) :=
    cr_block (xs := [.bool false, .bool true]) (T := 4) (by
      show ((w.heap.push _).push _)[w.heap.size + 1]? = _
      rw [Array.getElem?_push, if_pos (by simp)])
  have := fill_any v _ _ k5L _ _ _ (by decide) k5_small (h.below hb) h1 h2 (by decide) (by decide) (by
    intro s hs
    simp only [List.mem_cons, List.not_mem_nil, or_false] at hs
    rcases hs with rfl | rfl <;> decide)
  rw [k5f_eq] at this
  refine this.mono ?_
  rintro e w' ⟨u, he, hr, hb2⟩
  exact ⟨u, he, TR.own hr, hb.trans (hb2.mono hb.size)⟩
theorem fill_kg (v : Value) (w : World) (h : TR w v k5L) : Calls Tryz.prog 13 #[v, .slice (some ⟨w.heap.size, 0, none⟩) 1 1, .slice (some ⟨w.heap.size + 1, 0, none⟩) 1 1] ((w.alloc (.cells #[.string ⟨#[120]⟩] 9)).alloc (.cells #[.bool false] 4))
    fun e w' => ∃ u, e = .returned (.tuple #[u, .int .i64 8]) ∧ Below w.heap.size w w' := by
  have hb : Below w.heap.size w ((w.alloc (.cells #[.string ⟨#[120]⟩] 9)).alloc (.cells #[.bool false] 4)) := ((Below.refl _ _).alloc (Nat.le_refl _) _).alloc (by simp) _
  have h1 : CR ((w.alloc (.cells #[.string ⟨#[120]⟩] 9)).alloc (.cells #[.bool false] 4)) (.slice (some ⟨w.heap.size, 0, none⟩) 1 1) (([⟨#[120]⟩] : List ByteArray).map .string) :=
    cr_block (xs := [.string ⟨#[120]⟩]) (T := 9) (by show ((w.heap.push _).push _)[w.heap.size]? = _; simp [Array.getElem?_push])
  have h2 : CR ((w.alloc (.cells #[.string ⟨#[120]⟩] 9)).alloc (.cells #[.bool false] 4)) (.slice (some ⟨w.heap.size + 1, 0, none⟩) 1 1) (([false] : List Bool).map .bool) :=
    cr_block (xs := [.bool false]) (T := 4) (by
      show ((w.heap.push _).push _)[w.heap.size + 1]? = _
      rw [Array.getElem?_push, if_pos (by simp)])
  have := fill_any v _ _ k5L _ _ _ (by decide) k5_small (h.below hb) h1 h2 (by decide) (by decide) (by
    intro s hs
    simp only [List.mem_cons, List.not_mem_nil, or_false] at hs
    subst hs; decide)
  rw [k5g_eq] at this
  refine this.mono ?_
  rintro e w' ⟨u, he, hr, hb2⟩
  exact ⟨u, he, hb.trans (hb2.mono hb.size)⟩
theorem binds_k (v : Value) (w : World) (h : TR w v k5L) : Calls Tryz.prog 16 #[v] w fun e w' => e = .returned (.int .i64 2) ∧ Below w.heap.size w w' := by
  have := binds_any v k5L w (by decide) (fun t ht _ => k5_small t ht) h
  rw [k5n_eq] at this
  exact this
theorem tokens_k (v : Value) (m : Int) (w : World) (h : TR w v k5M) (hm : Wd m w) : Calls Tryz.prog 11 #[v] w fun e w' => e = .returned (.string ⟨#[97, 32, 61, 32, 110, 117, 108, 108, 32, 111, 114, 32, 98, 32, 61, 32, 39, 120, 39]⟩) ∧ Below w.heap.size w w' := by
  have := tokens_any v k5M m w (by decide) k5m_small h hm
  rw [k5t_eq] at this
  exact this
set_option maxHeartbeats 4000000 in
theorem known5_any (m : Int) (w : World) (hm : Wd m w) :
    Calls Tryz.prog 8 #[] w fun e w' => e = .returned (.bool true) ∧ Below w.heap.size w w' := by
  have HM := Lib.hid hm
  clear hm
  go_enter Tryz.func8, Tryz.ntmps8
  go_wp2_with fail
  refine (form_ka m _ HM.out).mono ?_
  rintro e w1 ⟨rfl, hb1⟩
  have HB1 := Lib.hid hb1
  have HM1 := Lib.hid (HM.out.below hb1)
  clear hb1
  go_wp2_with fail
  refine (form_kb m _ HM1.out).mono ?_
  rintro e w2 ⟨rfl, hb2⟩
  have HB2 := Lib.hid (HB1.out.trans (hb2.mono HB1.out.size))
  have HM2 := Lib.hid (HM1.out.below hb2)
  clear hb2
  go_wp2_with fail
  refine (scan_kc _).mono ?_
  rintro e w3 ⟨v3, rfl, ht3, hb3⟩
  have HB3 := Lib.hid (HB2.out.trans (hb3.mono HB2.out.size))
  have HM3 := Lib.hid (HM2.out.below hb3)
  have HT3 := Lib.hid ht3
  clear hb3 ht3
  go_wp2_with fail
  refine (fill_kf v3 w3 HT3.out).mono ?_
  rintro e w4 ⟨v4, rfl, ht4, hb4⟩
  have HB4 := Lib.hid (HB3.out.trans (hb4.mono HB3.out.size))
  have HM4 := Lib.hid (HM3.out.below hb4)
  have HT4 := Lib.hid ht4
  have HT34 := Lib.hid (HT3.out.below hb4)
  clear hb4 ht4
  go_wp2_with fail
  refine (fill_kg v3 w4 HT34.out).mono ?_
  rintro e w5 ⟨v5, rfl, hb5⟩
  have HB5 := Lib.hid (HB4.out.trans (hb5.mono HB4.out.size))
  have HM5 := Lib.hid (HM4.out.below hb5)
  have HT5 := Lib.hid (HT4.out.below hb5)
  have HT35 := Lib.hid (HT34.out.below hb5)
  clear hb5
  go_wp2_with fail
  refine (binds_k v3 w5 HT35.out).mono ?_
  rintro e w6 ⟨rfl, hb6⟩
  have HB6 := Lib.hid (HB5.out.trans (hb6.mono HB5.out.size))
  have HM6 := Lib.hid (HM5.out.below hb6)
  have HT6 := Lib.hid (HT5.out.below hb6)
  clear hb6
  go_wp2_with fail
  refine (tokens_k v4 m w6 HT6.out HM6.out).mono ?_
  rintro e w7 ⟨rfl, hb7⟩
  have HB7 := Lib.hid (HB6.out.trans (hb7.mono HB6.out.size))
  clear hb7
  go_wp2
  go_ret
  exact ⟨rfl, HB7.out⟩
end Go.Proofs.YtgnpkpboilnijaaGreatDoor
namespace Go.Proofs.YtgnpkpboilnijaaGreatDoor
set_option linter.unusedSimpArgs false
open Go.ChangeShapes Go.WideShapes Go.ChangeAt Go.RowKit
set_option maxRecDepth 100000
set_option linter.unusedVariables false

theorem returns_card {H : Type} {enc : TypeId × Value → H} {a : Assume} {C : Checked} {os : Os} {f : FuncId} {fn : Func} {s : ChangeSpec} {conds : List PathCond} {apart fresh handsOn again : Bool} {X : World → Array Value → Prop}
    (own : ownKnob C.prog.godebug = none) (started : os.Started) (noInit : C.prog.inits.idxOf? f = none) (hfn : C.prog.funcs[f]? = some fn)
    (witness : ∃ (w : World) (tape : Tape) (i : Input), w.os = os ∧ (w.forCall tape i).Shaped C.prog ∧ i.vars = [] ∧ Input.okWide C.prog (w.forCall tape i) .any w.heap.size f i ∧
      ((s.pre enc C.prog fn conds apart (w.forCall tape i).memory i.args ∧ X (w.forCall tape i).memory i.args) ∧ sizedMet enc C.prog fn (OpenSpec.ofChange s) apart (w.forCall tape i).memory i.args) ∧ a.holds C.prog (lone (Frame.enter C.prog f i.args .normal) [] (w.forCall tape i)))
    (contract : ∀ (W : World) (base : Nat) (args : Array Value) (ds gs : List (DataW H)) (before : List MemPlace),
      (∀ (j : Nat) t v, fn.params[j]? = some t → args[j]? = some v → Value.okWide C.prog W .any base t v) →
      DataW.Whole enc C.prog fn.params.toList s.vars apart W args.toList ds gs before →
      conds.all (PathCond.test C.prog ⟨fn.params.toList, ds, s.plain.varTypes C.prog, gs⟩) = true →
      (DataW.weightsEach C.prog (fn.params.toList ++ s.plain.varTypes C.prog) (ds ++ gs)).all (· ≤ reachBytes) = true →
      W.ShapedOpen C.prog →
      a.holds C.prog (lone (Frame.enter C.prog f args .normal) [] W) →
      Calls C.prog f args W fun e W' => ∃ v, e = .returned v ∧ s.post enc C.prog fn apart fresh handsOn again W args v W') :
    ReturnsInHanded a C os f .any (fun w args => (s.pre enc C.prog fn conds apart w args ∧ X w args) ∧ sizedMet enc C.prog fn (OpenSpec.ofChange s) apart w args) (s.post enc C.prog fn apart fresh handsOn again) := by
  refine returnsInHanded_of_calls own started noInit witness ?_
  intro w tape i _ hsh _ hok hpre hholds
  obtain ⟨_, _, _, fn', hfn', _, _, _, _, hval⟩ := hok
  obtain rfl : fn' = fn := Option.some.inj (hfn'.symm.trans hfn)
  obtain ⟨⟨⟨ds, gs, before, hw, hc⟩, _⟩, hz⟩ := hpre
  refine (contract (w.forCall tape i) w.heap.size i.args ds gs before hval (DataW.Whole.of_heap (w' := w.forCall tape i) (by rfl) hw) hc (hz.weights hw) hsh hholds).mono fun e W' ⟨v, he, hp⟩ => ?_
  subst he
  exact ChangeSpec.post_blind hp
theorem the_word {W : World} (h : W.ShapedOpen Tryz.prog) : ∃ m, Wd m W :=
  cell_of_shapedOpen_int (g := 0) (zero := #[.int .i64 0]) (t := 3) h (of_decide_eq_true (by kernel_rfl)) (by kernel_rfl) rfl (by kernel_rfl) (by kernel_rfl) Tryz.underlying3
end Go.Proofs.YtgnpkpboilnijaaGreatDoor
namespace Go.Proofs.YtgnpkpboilnijaaGreatDoor
set_option linter.unusedSimpArgs false
open Go.ChangeShapes Go.WideShapes Go.ChangeAt Go.RowKit
set_option maxRecDepth 100000
open Go.ChangeMaps (open_string shut_string)
open Go.Deep
set_option linter.unusedVariables false

theorem quiet_add {P : Program} {f : FuncId} {args : Array Value} {w : World} {n x : Nat} {v : Value}
    (h : Calls P f args (w.drewN (n + x)) fun e w' => e = .returned v ∧ ∃ m, w' = (w.drewN (n + x)).drewN m) : Calls P f args (w.drewN (n + x)) fun e w'' => e = .returned v ∧ ∃ m, w'' = w.drewN (n + m) :=
  h.mono fun _ _ ⟨he, m, hm⟩ => ⟨he, x + m, by rw [hm, World.drewN_drewN, Nat.add_assoc]⟩
def FitsT (w : World) (v : Value) : Prop := ∃ l : List Tok, TR w v l
theorem one_tok {H : Type} {enc : TypeId × Value → H} {W : World} {n : Nat} {cs : List Value} {D : DataW H} {p : List MemPlace} (ht : DataW.trod enc Tryz.prog W 0 (fun _ => true) true n 35 cs = some (D, p)) :
    ∃ t : Tok, cs[0]? = some (.int .i64 t.1) ∧ cs[1]? = some (.string t.2.1) ∧ cs[2]? = some (.int .i64 t.2.2) := by
  obtain ⟨xs, m, _, hx, hl, hxl, hf⟩ := DataW.trod_struct Tryz.underlying35 ht
  match xs, hxl with
  | [y0, y1, y2], _ =>
    have h0 : DataW.trod enc Tryz.prog W 0 (fun _ => true) true m 3 (List.take (Tryz.prog.cellsOf 3) (List.drop 0 cs)) = some y0 := hf 0 _ rfl
    have h1 : DataW.trod enc Tryz.prog W 0 (fun _ => true) true m 9 (List.take (Tryz.prog.cellsOf 9) (List.drop 1 cs)) = some y1 := hf 1 _ rfl
    have h2 : DataW.trod enc Tryz.prog W 0 (fun _ => true) true m 3 (List.take (Tryz.prog.cellsOf 3) (List.drop 2 cs)) = some y2 := hf 2 _ rfl
    rw [show Tryz.prog.cellsOf 3 = 1 by kernel_rfl] at h0 h2
    rw [show Tryz.prog.cellsOf 9 = 1 by kernel_rfl] at h1
    obtain ⟨x, e0, _, w0⟩ := DataW.trod_int Tryz.underlying3 h0
    obtain ⟨b, e1, d1, _⟩ := DataW.trod_string Tryz.underlying9 h1
    obtain ⟨z, e2, _, w2⟩ := DataW.trod_int Tryz.underlying3 h2
    refine ⟨(x, b, z), ?_, ?_, ?_⟩
    · have := congrArg (·[0]?) e0
      simpa using this
    · have := congrArg (·[0]?) e1
      simpa using this
    · have := congrArg (·[0]?) e2
      simpa using this
theorem opened_toks {H : Type} {enc : TypeId × Value → H} {W : World} {base : Nat} {v : Value} {d : DataW H} {p : List MemPlace} (hv : Value.okWide Tryz.prog W .any base 22 v)
    (h : DataW.Trod enc Tryz.prog W 0 (fun _ => true) true 22 v d p) (hz : (DataW.weights Tryz.prog 22 d).all (· ≤ reachBytes) = true) : FitsT W v := by
  obtain ⟨a, ln, cp, rfl⟩ := okWide_slice Tryz.underlying22 hv
  obtain ⟨fuel, hf⟩ := h
  rcases open_slice Tryz.underlying22 hf with ⟨e, _⟩ | ⟨ad, len, cap, m, n, D, Pl, hcs, hb, hl, hm, hmm, hx, hi⟩
  · simp [Value.cells] at e
    obtain ⟨rfl, rfl, rfl⟩ := e
    exact ⟨[], .inl ⟨_, _, rfl, rfl⟩⟩
  · simp [Value.cells] at hcs
    obtain ⟨rfl, rfl, rfl⟩ := hcs
    have hC : Tryz.prog.cellsOf 35 = 3 := by kernel_rfl
    rw [hC] at hi
    have hlm : ln ≤ m := by rw [hmm]; simp; exact hl
    have key : ∀ j, j ≤ ln → ∃ l : List Tok, l.length = j ∧ ∀ (i : Nat) (t : Tok), l[i]? = some t → W.cell? (ad.add (i * 3)) = some (.int .i64 t.1) ∧ W.cell? ((ad.add (i * 3)).add 1) = some (.string t.2.1) ∧ W.cell? ((ad.add (i * 3)).add 2) = some (.int .i64 t.2.2) := by
      intro j
      induction j with
      | zero => intro _; exact ⟨[], rfl, fun i x hi => by simp at hi⟩
      | succ j ih =>
        intro hj
        obtain ⟨l, h1, h2⟩ := ih (by omega)
        obtain ⟨cs', hc, ht⟩ := hi j (by omega)
        obtain ⟨_, hcl, hat⟩ := World.cells?_some hc
        obtain ⟨t, e0, e1, e2⟩ := one_tok ht
        refine ⟨l ++ [t], by simp [h1], fun i x hx' => ?_⟩
        by_cases hij : i < l.length
        · rw [List.getElem?_append_left hij] at hx'
          exact h2 i x hx'
        · have hlt := (List.getElem?_eq_some_iff.1 hx').1
          have hie : i = j := by simp at hlt; omega
          subst hie
          rw [List.getElem?_append_right (by omega), h1, Nat.sub_self] at hx'
          simp at hx'
          subst hx'
          have a0 := hat 0 (by omega)
          have a1 := hat 1 (by omega)
          have a2 := hat 2 (by omega)
          rw [e0] at a0
          rw [e1] at a1
          rw [e2] at a2
          exact ⟨by simpa [Addr.add] using a0, a1, a2⟩
    obtain ⟨l, h1, h2⟩ := key ln (Nat.le_refl _)
    refine ⟨l, ?_⟩
    by_cases h0 : l = []
    · subst h0
      exact .inl ⟨_, _, by rw [← h1]; rfl, rfl⟩
    · obtain ⟨x, hx0⟩ : ∃ x, l[0]? = some x := ⟨l[0]'(by cases l; exact absurd rfl h0; simp), List.getElem?_eq_getElem _⟩
      obtain ⟨c0, _⟩ := h2 0 x hx0
      have hsp : ad.spot = none := by
        have hcell : (W.cell? (ad.add (0 * 3))).isSome = true := by rw [c0]; rfl
        have e : ad.add (0 * 3) = ad := by simp [Addr.add]
        rw [e] at hcell
        unfold World.cell? at hcell
        cases hs : ad.spot with
        | none => rfl
        | some q => rw [hs] at hcell; revert hcell; split <;> simp
      obtain ⟨bl, of, sp⟩ := ad
      simp only at hsp
      subst hsp
      refine .inr ⟨bl, of, cp, by rw [h1], by omega, fun i y hy => ?_⟩
      obtain ⟨d0, d1, d2⟩ := h2 i y hy
      rw [Addr.add_lit] at d0 d1 d2
      rw [Addr.add_lit] at d1 d2
      exact ⟨d0, d1, d2⟩
end Go.Proofs.YtgnpkpboilnijaaGreatDoor
namespace Go.Proofs.YtgnpkpboilnijaaGreatDoor
open Go.ChangeShapes Go.WideShapes Go.ChangeAt Go.RowKit Go.Deep
set_option maxRecDepth 100000
set_option linter.unusedVariables false
set_option linter.unusedSimpArgs false

theorem weightsAll_in {H : Type} {P : Program} {e : TypeId} : ∀ {l : List (DataW H)} {d : DataW H}, d ∈ l → ∀ n ∈ d.weights P e, n ∈ DataW.weightsAll P e l
  | [], _, h, _, _ => by cases h
  | x :: r, d, h, n, hn => by
    rcases List.mem_cons.1 h with rfl | h
    · simp [DataW.weightsAll, hn]
    · simp [DataW.weightsAll, weightsAll_in h n hn]
section
variable {H : Type} {enc : TypeId × Value → H} {W : World} {fuel : Nat}
theorem cr_of {ts te : TypeId} {c : Value} {x : DataW H × List MemPlace} (ht : Tryz.prog.underlying ts = some (.slice te)) (hc : Tryz.prog.cellsOf te = 1) (h : DataW.trod enc Tryz.prog W 0 (fun _ => true) true fuel ts [c] = some x) :
    ∃ (xs : List Value), CR W c xs ∧ ∀ v ∈ xs, ∃ (n : Nat) (D : DataW H) (p : List MemPlace), DataW.trod enc Tryz.prog W 0 (fun _ => true) true n te [v] = some (D, p) ∧ ∀ k ∈ D.weights Tryz.prog te, k ∈ x.1.weights Tryz.prog ts := by
  rcases open_slice1 ht hc h with ⟨e, _⟩ | ⟨ad, len, cap, m, n, V, D, Pl, e, hb, hl, hm, hmm, hx, hi⟩
  · injection e with e _
    subst e
    exact ⟨[], .inl ⟨_, _, rfl, rfl⟩, fun v hv => by cases hv⟩
  · injection e with e _
    subst e
    have hmm' : m = cap := by rw [hmm]; simp
    refine ⟨(List.range len).map V, ?_, fun v hv => ?_⟩
    · by_cases h0 : len = 0
      · subst h0
        exact .inl ⟨_, _, rfl, rfl⟩
      · have c0 := (hi 0 (by omega)).1
        have hsp : ad.spot = none := by
          have hcell : (W.cell? (ad.add 0)).isSome = true := by rw [c0]; rfl
          have e : ad.add 0 = ad := by simp [Addr.add]
          rw [e] at hcell
          unfold World.cell? at hcell
          cases hs : ad.spot with
          | none => rfl
          | some q => rw [hs] at hcell; revert hcell; split <;> simp
        obtain ⟨bl, of, sp⟩ := ad
        simp only at hsp
        subst hsp
        refine .inr ⟨bl, of, cap, by simp, by simpa using hl, fun j y hy => ?_⟩
        have hj : j < len := by have := (List.getElem?_eq_some_iff.1 hy).1; simpa using this
        have := (hi j (by omega)).1
        rw [Addr.add_lit] at this
        rw [this]
        simp [hj] at hy
        rw [← hy]
    · obtain ⟨i, hi1, rfl⟩ := List.mem_map.1 hv
      have hi2 := List.mem_range.1 hi1
      refine ⟨n, D i, Pl i, (hi i (by omega)).2, fun k hk => ?_⟩
      rw [hx]
      simp only [DataW.weights, ht]
      exact List.mem_cons_of_mem _ (List.mem_append_left _ (weightsAll_in (List.mem_map.2 ⟨i, hi1, rfl⟩) _ hk))
theorem strs_of {Z : ByteArray → Prop} : ∀ (xs : List Value), (∀ v ∈ xs, ∃ t : ByteArray, v = .string t ∧ Z t) → ∃ l : List ByteArray, xs = l.map .string ∧ ∀ t ∈ l, Z t
  | [], _ => ⟨[], rfl, fun t ht => by cases ht⟩
  | v :: xs, h => by
    obtain ⟨l, e, hl⟩ := strs_of xs (fun v hv => h v (List.mem_cons_of_mem _ hv))
    obtain ⟨t, e2, hz⟩ := h v (by simp)
    refine ⟨t :: l, by rw [e, e2]; rfl, fun u hu => ?_⟩
    rcases List.mem_cons.1 hu with rfl | hu
    · exact hz
    · exact hl u hu
theorem bools_of : ∀ (xs : List Value), (∀ v ∈ xs, ∃ t : Bool, v = .bool t) → ∃ l : List Bool, xs = l.map .bool
  | [], _ => ⟨[], rfl⟩
  | v :: xs, h => by
    obtain ⟨l, e⟩ := bools_of xs (fun v hv => h v (List.mem_cons_of_mem _ hv))
    obtain ⟨t, e2⟩ := h v (by simp)
    exact ⟨t :: l, by rw [e, e2]; rfl⟩
end
def FitsS (W : World) (v : Value) : Prop := ∃ l : List ByteArray, CR W v (l.map .string) ∧ ∀ t ∈ l, t.size ≤ 140737488351232
def FitsB (W : World) (v : Value) : Prop := ∃ l : List Bool, CR W v (l.map .bool)
theorem opened_strs {H : Type} {enc : TypeId × Value → H} {W : World} {base : Nat} {v : Value} {d : DataW H} {p : List MemPlace} (hv : Value.okWide Tryz.prog W .any base 30 v)
    (h : DataW.Trod enc Tryz.prog W 0 (fun _ => true) true 30 v d p) (hz : (DataW.weights Tryz.prog 30 d).all (· ≤ reachBytes) = true) : FitsS W v := by
  obtain ⟨a, ln, cp, rfl⟩ := okWide_slice Tryz.underlying30 hv
  obtain ⟨fuel, hf⟩ := h
  obtain ⟨xs, h1, h2⟩ := cr_of Tryz.underlying30 (by kernel_rfl) (c := .slice a ln cp) hf
  obtain ⟨l, rfl, hl⟩ := strs_of (Z := fun t => t.size ≤ 140737488351232) xs (fun v hv => by
    obtain ⟨n, D, p, h3, h4⟩ := h2 v hv
    obtain ⟨b, e, e2, _⟩ := DataW.trod_string Tryz.underlying9 h3
    injection e with e _
    refine ⟨b, e, ?_⟩
    have := List.all_eq_true.1 hz _ (h4 b.data.toList.length (by
      rw [show D = _ from congrArg Prod.fst e2]
      simp [DataW.weights]))
    have := of_decide_eq_true this
    rw [← Lib.size_eq] at this
    exact this)
  exact ⟨l, h1, hl⟩
theorem opened_bools {H : Type} {enc : TypeId × Value → H} {W : World} {base : Nat} {v : Value} {d : DataW H} {p : List MemPlace} (hv : Value.okWide Tryz.prog W .any base 31 v)
    (h : DataW.Trod enc Tryz.prog W 0 (fun _ => true) true 31 v d p) (hz : (DataW.weights Tryz.prog 31 d).all (· ≤ reachBytes) = true) : FitsB W v := by
  obtain ⟨a, ln, cp, rfl⟩ := okWide_slice Tryz.underlying31 hv
  obtain ⟨fuel, hf⟩ := h
  obtain ⟨xs, h1, h2⟩ := cr_of Tryz.underlying31 (by kernel_rfl) (c := .slice a ln cp) hf
  obtain ⟨l, rfl⟩ := bools_of xs (fun v hv => by
    obtain ⟨n, D, p, h3, h4⟩ := h2 v hv
    obtain ⟨b, e, _⟩ := DataW.trod_bool Tryz.underlying4 h3
    injection e with e _
    exact ⟨b, e⟩)
  exact ⟨l, h1⟩
theorem CR.below {w w' : World} {v : Value} {xs : List Value} (h : CR w v xs) (b : Below w.heap.size w w') : CR w' v xs := by
  rcases h with h | ⟨g, off, cap, e, hc, hx⟩
  · exact .inl h
  · refine .inr ⟨g, off, cap, e, hc, fun i x hi => ?_⟩
    have := hx i x hi
    rw [b.cell (p := ⟨g, off + i, none⟩) (World.block_lt_of_cell? w _ this)]
    exact this
theorem CR.form {w : World} {v : Value} {xs : List Value} (h : CR w v xs) : ∃ a cap, v = .slice a xs.length cap := by
  rcases h with ⟨a, cap, rfl, rfl⟩ | ⟨g, off, cap, rfl, _⟩
  · exact ⟨_, _, rfl⟩
  · exact ⟨_, _, rfl⟩
/-- what Fill makes: as many tokens, no parameter left; of no parameters the same -/
theorem fill_facts : ∀ (l : List Tok) (args : List ByteArray) (null : List Bool) (r : List Tok), fillL l args null = some r →
    r.length = l.length ∧ (∀ t ∈ r, (parT t).getD 0 = 0) ∧ (∀ t ∈ l, (parT t).getD 0 ≤ args.length) ∧ ((∀ t ∈ l, (parT t).getD 0 = 0) → r = l) ∧ (∀ t ∈ r, t.1 = 5 → t ∈ l) := by
  intro l
  induction l with
  | nil => intro args null r h; simp [fillL] at h; subst h; exact ⟨rfl, by simp, by simp, fun _ => rfl, by simp⟩
  | cons t r0 ih =>
    intro args null r h
    rw [fill_cons] at h
    cases hp : parT t with
    | none =>
      rw [hp] at h
      simp only at h
      obtain ⟨m, hm, rfl⟩ := Option.map_eq_some_iff.1 h
      obtain ⟨i1, i2, i3, i4, i5⟩ := ih args null m hm
      refine ⟨by simp [i1], fun u hu => ?_, fun u hu => ?_, fun hz => ?_, fun u hu h5 => ?_⟩
      · rcases List.mem_cons.1 hu with rfl | hu
        · rw [hp]; rfl
        · exact i2 u hu
      · rcases List.mem_cons.1 hu with rfl | hu
        · rw [hp]; exact Nat.zero_le _
        · exact i3 u hu
      · rw [i4 fun u hu => hz u (List.mem_cons_of_mem _ hu)]
      · rcases List.mem_cons.1 hu with rfl | hu
        · simp
        · exact List.mem_cons_of_mem _ (i5 u hu h5)
    | some n =>
      rw [hp] at h
      simp only at h
      by_cases hn : n = 0 ∨ args.length < n
      · rw [if_pos hn] at h; cases h
      · rw [if_neg hn] at h
        obtain ⟨m, hm, rfl⟩ := Option.map_eq_some_iff.1 h
        obtain ⟨i1, i2, i3, i4, i5⟩ := ih args null m hm
        refine ⟨by simp [i1], fun u hu => ?_, fun u hu => ?_, fun hz => ?_, fun u hu h5 => ?_⟩
        · rcases List.mem_cons.1 hu with rfl | hu
          · have : parT (fillT n t args null) = none := by
              unfold fillT
              split
              · exact if_neg (fun h => absurd (show (1 : Int) = 5 from h.1) (by decide))
              · exact if_neg (fun h => absurd (show (3 : Int) = 5 from h.1) (by decide))
            rw [this]; rfl
          · exact i2 u hu
        · rcases List.mem_cons.1 hu with rfl | hu
          · rw [hp]; show n ≤ _; omega
          · exact i3 u hu
        · have := hz t (by simp)
          rw [hp] at this
          have h0 : n = 0 := this
          exact absurd (.inl h0) hn
        · rcases List.mem_cons.1 hu with rfl | hu
          · unfold fillT at h5
            split at h5
            · exact absurd (show (1 : Int) = 5 from h5) (by decide)
            · exact absurd (show (3 : Int) = 5 from h5) (by decide)
          · exact List.mem_cons_of_mem _ (i5 u hu h5)
theorem binds_zero : ∀ (l : List Tok) (n : Nat), (∀ t ∈ l, (parT t).getD 0 = 0) → l.foldl bindF n = n := by
  intro l
  induction l with
  | nil => intro n _; rfl
  | cons t r ih =>
    intro n h
    rw [List.foldl_cons]
    have : bindF n t = n := by unfold bindF; rw [h t (by simp)]; omega
    rw [this]
    exact ih n fun u hu => h u (List.mem_cons_of_mem _ hu)
theorem binds_le : ∀ (l : List Tok) (n k : Nat), n ≤ k → (∀ t ∈ l, (parT t).getD 0 ≤ k) → l.foldl bindF n ≤ k := by
  intro l
  induction l with
  | nil => intro n k h _; exact h
  | cons t r ih =>
    intro n k h h2
    rw [List.foldl_cons]
    have := h2 t (by simp)
    exact ih _ k (by unfold bindF; omega) fun u hu => h2 u (List.mem_cons_of_mem _ hu)
theorem binds_ge : ∀ (l : List Tok) (n : Nat), n ≤ l.foldl bindF n ∧ ∀ t ∈ l, (parT t).getD 0 ≤ l.foldl bindF n := by
  intro l
  induction l with
  | nil => intro n; exact ⟨Nat.le_refl _, by simp⟩
  | cons t r ih =>
    intro n
    rw [List.foldl_cons]
    obtain ⟨i1, i2⟩ := ih (bindF n t)
    have h1 : n ≤ bindF n t ∧ (parT t).getD 0 ≤ bindF n t := by unfold bindF; omega
    refine ⟨Nat.le_trans h1.1 i1, fun u hu => ?_⟩
    rcases List.mem_cons.1 hu with rfl | hu
    · exact Nat.le_trans h1.2 i1
    · exact i2 u hu
end Go.Proofs.YtgnpkpboilnijaaGreatDoor
namespace Go.Proofs.YtgnpkpboilnijaaGreatDoor
open Go.ChangeShapes Go.WideShapes Go.ChangeAt Go.RowKit
set_option maxRecDepth 100000
set_option linter.unusedVariables false
set_option linter.unusedSimpArgs false

def upZ (x : Int) : Int := IntKind.i64.wrap (x + 1)
def upT (t : Tok) : Tok := (t.1, t.2.1, upZ t.2.2)
/-- the first k places in block g are raised -/
structure CE (l : List Tok) (g k : Nat) (w : World) : Prop where
  cell : ∀ i (hi : i < l.length), w.cell? ⟨g, i * 3, none⟩ = some (.int .i64 l[i].1) ∧ w.cell? ⟨g, i * 3 + 1, none⟩ = some (.string l[i].2.1) ∧ w.cell? ⟨g, i * 3 + 2, none⟩ = some (.int .i64 (if i < k then upZ l[i].2.2 else l[i].2.2))
  fro : ∀ i (hi : i < l.length), w.frozen? ⟨g, i * 3 + 2, none⟩ = false
structure UpI (l : List Tok) (g k : Nat) (w0 wr : World) : Prop where
  ce : CE l g k wr
  bel : Below g w0 wr
  oth : ∀ p : Addr, p.block ≠ g → wr.cell? p = w0.cell? p
  fot : ∀ p : Addr, p.block ≠ g → wr.frozen? p = w0.frozen? p
theorem UpI.start {l : List Tok} {g : Nat} {w : World} (h : CE l g 0 w) : UpI l g 0 w w := ⟨h, Below.refl _ _, fun _ _ => rfl, fun _ _ => rfl⟩
theorem UpI.step {l : List Tok} {g k : Nat} {w0 wr : World} (h : UpI l g k w0 wr) (hk : k < l.length) : UpI l g (k + 1) w0 (wr.setCell ⟨g, k * 3 + 2, none⟩ (.int .i64 (upZ l[k].2.2))) := by
  refine ⟨⟨fun i hi => ?_, fun i hi => by rw [World.frozen?_setCell]; exact h.ce.fro i hi⟩, h.bel.setCell (Nat.le_refl _) _, fun p hp => ?_, fun p hp => by rw [World.frozen?_setCell]; exact h.fot p hp⟩
  · obtain ⟨c0, c1, c2⟩ := h.ce.cell i hi
    refine ⟨?_, ?_, ?_⟩
    · rw [World.cell?_setCell_other _ _ _ _ (by intro h2; simp only [Addr.mk.injEq] at h2; omega)]; exact c0
    · rw [World.cell?_setCell_other _ _ _ _ (by intro h2; simp only [Addr.mk.injEq] at h2; omega)]; exact c1
    · by_cases e : i = k
      · subst e
        rw [World.cell?_setCell_same _ _ _ c2, if_pos (by omega)]
      · rw [World.cell?_setCell_other _ _ _ _ (by intro h2; simp only [Addr.mk.injEq] at h2; omega), c2]
        by_cases e2 : i < k
        · rw [if_pos e2, if_pos (by omega)]
        · rw [if_neg e2, if_neg (by omega)]
  · rw [World.cell?_setCell_other _ _ _ _ (by intro h2; rw [← h2] at hp; exact hp rfl)]; exact h.oth p hp
theorem CE.read {l : List Tok} {g cap : Nat} {w : World} (h : CE l g l.length w) (hc : l.length ≤ cap) : TR w (.slice (some ⟨g, 0, none⟩) l.length cap) (l.map upT) := by
  have hl : (l.map upT).length = l.length := List.length_map _
  refine .inr ⟨g, 0, cap, by rw [hl], by rw [hl]; exact hc, fun i t ht => ?_⟩
  have hi := (List.getElem?_eq_some_iff.1 ht).1
  rw [hl] at hi
  rw [List.getElem?_map, List.getElem?_eq_getElem hi] at ht
  cases ht
  obtain ⟨c0, c1, c2⟩ := h.cell i hi
  rw [if_pos hi] at c2
  simp only [Nat.zero_add]
  exact ⟨c0, c1, c2⟩
/-- how a list that a call made lies -/
def LiesAt (l : List Tok) (g : Nat) (a : Option Addr) (cap : Nat) (w : World) : Prop := l.length = 0 ∨ (a = some ⟨g, 0, none⟩ ∧ l.length ≤ cap ∧ g < w.heap.size)
theorem ce_made {l : List Tok} {B : Nat} {v : Value} {w : World} (h : w.ownsRow B 35 3 v l.length (tokRow l)) :
    ∃ a cap g, v = .slice a l.length cap ∧ B ≤ g ∧ LiesAt l g a cap w ∧ CE l g 0 w := by
  rcases h.2 with ⟨rfl, hz⟩ | ⟨g, cap, cur, rfl, hbg, hh, hc, hm, hs, ht⟩
  · exact ⟨none, 0, B, by rw [hz], Nat.le_refl _, .inl hz, ⟨fun i hi => by omega, fun i hi => by omega⟩⟩
  · refine ⟨_, cap, g, rfl, hbg, .inr ⟨rfl, hc, (Array.getElem?_eq_some_iff.1 hh).1⟩, ⟨fun i hi => ?_, fun i hi => Lib.frozen_of_heap hh _⟩⟩
    obtain ⟨a, b, c⟩ := tokRow_get l i l[i] (List.getElem?_eq_getElem hi)
    have hcell := h.cells (g := g) rfl
    have e1 := hcell _ _ a
    have e2 := hcell _ _ b
    have e3 := hcell _ _ c
    rw [Addr.add_lit, Nat.zero_add] at e1 e2 e3
    rw [if_neg (by omega)]
    exact ⟨e1, e2, e3⟩
theorem CE.other {l : List Tok} {g k g2 : Nat} {w w2 : World} (h : CE l g k w) (hg : l.length = 0 ∨ g ≠ g2) (hc : ∀ p : Addr, p.block ≠ g2 → w2.cell? p = w.cell? p) (hf : ∀ p : Addr, p.block ≠ g2 → w2.frozen? p = w.frozen? p) : CE l g k w2 := by
  rcases hg with h0 | hne
  · exact ⟨fun i hi => by omega, fun i hi => by omega⟩
  · refine ⟨fun i hi => ?_, fun i hi => by rw [hf ⟨g, i * 3 + 2, none⟩ hne]; exact h.fro i hi⟩
    rw [hc ⟨g, i * 3, none⟩ hne, hc ⟨g, i * 3 + 1, none⟩ hne, hc ⟨g, i * 3 + 2, none⟩ hne]
    exact h.cell i hi
theorem CE.below {l : List Tok} {g k : Nat} {w w2 : World} (h : CE l g k w) (hg : l.length = 0 ∨ g < w.heap.size) (b : Below w.heap.size w w2) : CE l g k w2 := by
  rcases hg with h0 | hlt
  · exact ⟨fun i hi => by omega, fun i hi => by omega⟩
  · refine ⟨fun i hi => ?_, fun i hi => by rw [b.frozen (p := ⟨g, i * 3 + 2, none⟩) hlt]; exact h.fro i hi⟩
    rw [b.cell (p := ⟨g, i * 3, none⟩) hlt, b.cell (p := ⟨g, i * 3 + 1, none⟩) hlt, b.cell (p := ⟨g, i * 3 + 2, none⟩) hlt]
    exact h.cell i hi
theorem ce_read {l : List Tok} {g cap : Nat} {a : Option Addr} {w w0 : World} (h : CE l g l.length w) (hl : LiesAt l g a cap w0) : TR w (.slice a l.length cap) (l.map upT) := by
  rcases hl with h0 | ⟨rfl, hc, _⟩
  · have e : l = [] := List.eq_nil_of_length_eq_zero h0
    subst e
    exact .inl ⟨a, cap, rfl, rfl⟩
  · exact h.read hc
theorem toks_lie {w : World} {v : Value} {l : List Tok} (h : TR w v l) : (∃ c, v = .slice none 0 c ∧ l = []) ∨ ∃ ad c, v = .slice (some ad) l.length c ∧ ∀ j u, (tokRow l)[j]? = some u → w.cell? (ad.add j) = some u := by
  rcases h with ⟨A, cap, rfl, rfl⟩ | ⟨g, off, cap, rfl, hc, hx⟩
  · cases A with
    | none => exact .inl ⟨_, rfl, rfl⟩
    | some ad => exact .inr ⟨ad, _, rfl, fun j u hj => by simp [tokRow] at hj⟩
  · refine .inr ⟨_, _, rfl, fun j u hj => ?_⟩
    have hlen := tokRow_len l
    have hj2 := (List.getElem?_eq_some_iff.1 hj).1
    have hi : j / 3 < l.length := by omega
    obtain ⟨c0, c1, c2⟩ := hx (j / 3) l[j / 3] (List.getElem?_eq_getElem hi)
    obtain ⟨d0, d1, d2⟩ := tokRow_get l (j / 3) l[j / 3] (List.getElem?_eq_getElem hi)
    rw [Addr.add_lit]
    have hm : j % 3 = 0 ∨ j % 3 = 1 ∨ j % 3 = 2 := by omega
    rcases hm with hm | hm | hm
    · rw [show j = j / 3 * 3 by omega, d0] at hj
      cases hj
      rw [show off + j = off + j / 3 * 3 by omega]; exact c0
    · rw [show j = j / 3 * 3 + 1 by omega, d1] at hj
      cases hj
      rw [show off + j = off + j / 3 * 3 + 1 by omega]; exact c1
    · rw [show j = j / 3 * 3 + 2 by omega, d2] at hj
      cases hj
      rw [show off + j = off + j / 3 * 3 + 2 by omega]; exact c2
end Go.Proofs.YtgnpkpboilnijaaGreatDoor
namespace Go.Proofs.YtgnpkpboilnijaaGreatDoor
open Go.ChangeShapes Go.WideShapes Go.ChangeAt Go.RowKit
set_option maxRecDepth 100000
set_option linter.unusedVariables false
set_option linter.unusedSimpArgs false

/-- a number's text as Scan finds it -/
def NumT (l : Tx) : Prop := ∃ c r, l = c :: r ∧ digB c = true ∧ ∀ d ∈ l, numB d = true
def nd_bytesT (c : UInt8) : Bool := !(numB c) || (c == 46) || digB c
theorem nd_bytes : ((List.range 256).all fun n => nd_bytesT (UInt8.ofNat n)) = true := by kernel_rfl
theorem num_dig (c : UInt8) (h : numB c = true) (h2 : c ≠ 46) : digB c = true := by
  have := byte_all (f := nd_bytesT) nd_bytes c
  unfold nd_bytesT at this
  rw [h] at this
  simpa [h2] using this
theorem front_num : ∀ l : Tx, NumT l → NumT (frontL l) := by
  intro l
  induction l with
  | nil => intro h; exact h
  | cons c r ih =>
    intro h
    cases r with
    | nil => exact h
    | cons d r =>
      rw [frontL]
      split
      · rename_i hc
        obtain ⟨c2, r2, e, h1, h2⟩ := h
        exact ih ⟨d, r, rfl, num_dig d (h2 d (by simp)) hc.2, fun x hx => h2 x (List.mem_cons_of_mem _ hx)⟩
      · exact h
theorem backN_ge (l : Tx) (i : Nat) (c : UInt8) (h : l[i]? = some c) (hc : c ≠ 48) : ∀ n, i < n → i + 1 ≤ backN l n := by
  intro n
  induction n with
  | zero => intro h; omega
  | succ n ih =>
    intro hn
    rw [backN]
    split
    · rename_i h2
      by_cases e : i = n
      · subst e; rw [h] at h2; cases h2; exact absurd rfl hc
      · exact ih (by omega)
    · omega
theorem take_num (z : Tx) (h : NumT z) (n : Nat) (hn : 0 < n) : NumT (z.take n) := by
  obtain ⟨c, r, e, h1, h2⟩ := h
  obtain ⟨m, rfl⟩ : ∃ m, n = m + 1 := ⟨n - 1, by omega⟩
  exact ⟨c, r.take m, by rw [e, List.take_succ_cons], h1, fun d hd => h2 d (List.mem_of_mem_take hd)⟩
theorem num_keeps (l : Tx) (h : NumT l) : NumT (numL l) := by
  have hf := front_num l h
  have hc := lead_count l
  obtain ⟨z, hz⟩ : ∃ z, frontL l = z := ⟨_, rfl⟩
  unfold numL
  rw [hz] at hf hc ⊢
  by_cases h1 : l.count 46 = 1
  · rw [if_pos h1]
    apply take_num z hf
    rw [h1] at hc
    have hm : (46 : UInt8) ∈ z := by rw [← List.count_pos_iff, hc]; decide
    obtain ⟨i, hi, hzi⟩ := List.getElem_of_mem hm
    have hi0 : i ≠ 0 := by
      rintro rfl
      obtain ⟨c, r, e, h3, _⟩ := hf
      subst e
      simp at hzi
      subst hzi
      exact absurd h3 (by decide)
    have hb := backN_ge z i 46 (by rw [List.getElem?_eq_getElem hi, hzi]) (by decide) z.length hi
    unfold pointN
    split <;> omega
  · rw [if_neg h1]; exact hf
def NumG (t : Tok) : Prop := t.1 = 4 → NumT t.2.1.data.toList
theorem one_num_t (s : ByteArray) (a : Nat) (hS : Solid s a) : NumG (oneP s a).1 := by
  have h := hS.lt
  have hh := head_at s a h
  unfold oneP
  simp only [hh]
  intro h4
  by_cases hl : letB s[a] = true
  · rw [if_pos hl] at h4; exact absurd (show (1 : Int) = 4 from h4) (by decide)
  · rw [if_neg hl] at h4 ⊢
    by_cases hd : digB s[a] = true
    · rw [if_pos hd]
      show NumT (s.extract a (a + rowL numB (s.data.toList.drop a))).data.toList
      rw [take_row s a numB (by omega)]
      have hn := row_pos numB s a h (dig_num _ hd)
      refine ⟨s[a], (s.data.toList.drop (a + 1)).take (rowL numB (s.data.toList.drop (a + 1))), ?_, hd, ?_⟩
      · rw [bb_list, hn, byte_at s a h, List.take_succ_cons]
      · intro d hd
        rw [bb_list] at hd
        exact row_take numB _ d hd
    · exfalso
      rw [if_neg hd] at h4
      split at h4
      · cases hq : quoAt s a 34 with
        | none => rw [hq] at h4; exact absurd (show (0 : Int) = 4 from h4) (by decide)
        | some p => rw [hq] at h4; exact absurd (show (2 : Int) = 4 from h4) (by decide)
      · split at h4
        · cases hq : quoAt s a 39 with
          | none => rw [hq] at h4; exact absurd (show (0 : Int) = 4 from h4) (by decide)
          | some p => rw [hq] at h4; exact absurd (show (3 : Int) = 4 from h4) (by decide)
        · split at h4
          · split at h4
            · cases hq : dolAt s a (tagAt s a).toNat with
              | none => rw [hq] at h4; exact absurd (show (0 : Int) = 4 from h4) (by decide)
              | some p => rw [hq] at h4; exact absurd (show (3 : Int) = 4 from h4) (by decide)
            · split at h4
              · exact absurd (show (0 : Int) = 4 from h4) (by decide)
              · exact absurd (show (5 : Int) = 4 from h4) (by decide)
          · split at h4
            · exact absurd (show (0 : Int) = 4 from h4) (by decide)
            · exact absurd (show (5 : Int) = 4 from h4) (by decide)
theorem scan_nums (s : ByteArray) (a : Nat) (acc : List Tok) (ha : a ≤ s.size) (h : ∀ t ∈ acc, NumG t) : ∀ t ∈ (scanF s a acc).1, NumG t :=
  scan_ind s (fun a acc r => (∀ t ∈ acc, NumG t) → ∀ t ∈ r.1, NumG t) (fun a acc h h2 => h2) (fun a b acc r h1 h2 h3 => h3) (fun a acc e h1 h2 h3 t ht => by cases ht)
    (fun a acc r hS he h1 h2 h3 h4 => h3 fun t ht => by
      rcases List.mem_append.1 ht with ht | ht
      · exact h4 t ht
      · simp at ht; subst ht; exact one_num_t s a hS) a acc ha h
theorem good_norm (t : Tok) (hg : Good t.1 t.2.1) (hn : NumG t) : Good (normT t).1 (normT t).2.1 := by
  unfold normT
  by_cases h : t.1 = 4
  · rw [if_pos h]
    obtain ⟨c, r, e, h1, h2⟩ := num_keeps _ (hn h)
    exact good_num _ c r e h1 h2
  · rw [if_neg h]; exact hg
theorem show_bare (l : List Tok) : showL (l.map bare) = showL l := by
  cases l with
  | nil => rfl
  | cons t r =>
    show shownL (bare t) ++ tailL (r.map bare) = shownL t ++ tailL r
    rw [shown_bare]
    unfold tailL
    rw [List.flatMap_map]; rfl
theorem show_alike (a b : List Tok) (h : Alike false a b) : showL (tokensL a) = showL (tokensL b) := by
  rw [← show_bare (tokensL a), ← show_bare (tokensL b), ← tokens_bare, ← tokens_bare, alike_bare a b h]
theorem scan_goods (s : ByteArray) (h : (scanA s).2.1 = 0) : ∀ t ∈ (scanA s).1, Good t.1 t.2.1 ∧ NumG t := by
  by_cases hb : 2000 < s.size
  · have e : scanA s = ([], 2, 2000) := if_pos hb
    rw [e]; intro t ht; cases ht
  · rw [scanA_F s (by omega)]
    exact fun t ht => ⟨scan_all_good s 0 [] (Nat.zero_le _) (fun t ht => by cases ht) t ht, scan_nums s 0 [] (Nat.zero_le _) (fun t ht => by cases ht) t ht⟩
/-- the normal form of a normal form that is not too long -/
theorem form_twice (s : ByteArray) (h : (scanA s).2.1 = 0) (hl : (formA s).1.length ≤ 2000) : formA (bb (formA s).1) = formA s := by
  have e : formA s = (showL (tokensL (scanA s).1), 0) := by unfold formA; rw [if_pos h]
  have hg := scan_goods s h
  rw [e] at hl ⊢
  simp only at hl ⊢
  generalize (scanA s).1 = l at *
  have hgt : ∀ t ∈ tokensL l, Good t.1 t.2.1 := by
    intro t ht
    unfold tokensL at ht
    obtain ⟨u, hu, rfl⟩ := List.mem_map.1 ht
    have := hg u (List.mem_of_mem_take hu)
    exact good_norm u this.1 this.2
  obtain ⟨m, hm, ha⟩ := back (tokensL l) hgt
  have hsz : (bb (showL (tokensL l))).size ≤ 2000 := by rw [bb_size]; exact hl
  have hs : scanA (bb (showL (tokensL l))) = (m, 0, 0) := by rw [scanA_F _ hsz]; exact hm
  have e2 : formA (bb (showL (tokensL l))) = (showL (tokensL m), 0) := by unfold formA; rw [hs]; rfl
  rw [e2, ← show_alike _ _ ha, tokens_twice]
end Go.Proofs.YtgnpkpboilnijaaGreatDoor
namespace Go.Proofs.YtgnpkpboilnijaaGreatDoor
open Go.ChangeShapes Go.WideShapes Go.ChangeAt Go.RowKit
set_option maxRecDepth 100000
set_option linter.unusedVariables false
set_option linter.unusedSimpArgs false

theorem scan_single (k : Int) (t : ByteArray) (hg : Good k t) : scanF (bb (shownL (k, t, 0))) 0 [] = ([(k, t, 0)], 0, 0) := by
  have hd : (bb (shownL (k, t, 0))).data.toList.drop 0 = shownL (k, t, 0) ++ [] := by simp
  obtain ⟨hS, ho⟩ := hg _ 0 [] 0 hd (.inl rfl)
  rw [scan_good _ 0 [] k t _ hS ho, scanF_end _ _ _ (by show (shownL (k, t, 0)).toArray.size ≤ _; rw [List.size_toArray]; omega)]
  rfl
theorem idx_dol (l : Tx) (h : (36 : UInt8) ∉ l) : Lib.index (l ++ [36, 113, 36]) [36, 113, 36] = (l.length : Int) := by
  induction l with
  | nil => rw [List.nil_append, idx_cons, if_pos (by decide)]; rfl
  | cons c r ih =>
    have hc : c ≠ 36 := fun e => h (by rw [e]; simp)
    have hr := ih (fun hm => h (by simp [hm]))
    rw [List.cons_append, idx_cons, if_neg, hr, if_neg (by omega)]
    · simp
    · intro hh
      simp [List.isPrefixOf] at hh
      exact hc hh.1.symm
theorem scan_dol (l : Tx) (h : (36 : UInt8) ∉ l) : scanF (bb ([36, 113, 36] ++ l ++ [36, 113, 36])) 0 [] = ([(3, bb l, 0)], 0, 0) := by
  obtain ⟨x, hx⟩ : ∃ x, bb ([36, 113, 36] ++ l ++ [36, 113, 36]) = x := ⟨_, rfl⟩
  have hxl : x.data.toList = 36 :: 113 :: 36 :: (l ++ [36, 113, 36]) := by rw [← hx]; simp
  rw [hx]
  have hxs : x.size = l.length + 6 := by rw [← hx, bb_size]; simp
  have hd : x.data.toList.drop 0 = 36 :: (113 :: 36 :: (l ++ [36, 113, 36])) := by rw [hxl]; rfl
  obtain ⟨h1, h2, h3⟩ := head_lt x 0 36 _ hd
  have hS := solid_of x 0 36 _ hd (by decide) (.inl (by decide)) (.inl (by decide))
  have htl : tagL (x.data.toList.drop (0 + 1)) = 1 := by
    rw [h3, tagL_cons, if_pos (by decide), rowL_cons, if_neg (by decide)]
  have hta : tagAt x 0 = 3 := by
    unfold tagAt
    rw [htl, if_pos]
    · rfl
    · rw [hxl]; rfl
  have hm : (x.extract 0 3).data.toList = [36, 113, 36] := by
    have := ext_to x 0 3 (by omega)
    rw [this, hd]; rfl
  have hd3 : x.data.toList.drop 3 = l ++ [36, 113, 36] := by rw [hxl]; rfl
  have hdo : dolAt x 0 3 = some (l, 3 + l.length + 3) := by
    unfold dolAt
    rw [hm, hd3, idx_dol l h, if_pos (by omega), Int.toNat_natCast]
    simp
  have ho : oneP x 0 = ((3, bb l, ((0 : Nat) : Int)), 3 + l.length + 3, 0) := by
    unfold oneP
    simp only [h2]
    rw [if_neg (by decide), if_neg (by decide), if_neg (by decide), if_neg (by decide), if_pos trivial, hta, if_pos (by decide)]
    rw [show Int.toNat 3 = 3 from rfl, hdo]
  rw [scan_good x 0 [] 3 (bb l) _ hS ho, scanF_end _ _ _ (by omega)]
  rfl
/-- places so much farther -/
def shT (d : Nat) (t : Tok) : Tok := (t.1, t.2.1, t.2.2 + (d : Int))
def shR (d : Nat) (r : List Tok × Int × Int) : List Tok × Int × Int := (r.1.map (shT d), r.2.1, if r.2.1 = 0 then r.2.2 else r.2.2 + (d : Int))
theorem scan_shift (s x : ByteArray) (d : Nat) (hx : x.size = s.size + d) (hd : ∀ a, x.extract (a + d) x.size = s.extract a s.size) : ∀ (f a : Nat) (acc : List Tok), scanN f x (a + d) (acc.map (shT d)) = shR d (scanN f s a acc) := by
  intro f
  induction f with
  | zero => intro a acc; rfl
  | succ f ih =>
    intro a acc
    rw [scanN, scanN]
    by_cases h : s.size ≤ a
    · rw [if_pos h, if_pos (by omega)]; rfl
    · rw [if_neg h, if_neg (by omega), hd a]
      cases hf : findR 10 (s.extract a s.size) with
      | none => simp only [shR]; simp
      | some p =>
        by_cases hp : p.2.2 = -1
        · simp only [hp, if_true, shR]; simp
        · simp only [hp, if_false]
          have e : (if p.1 = 0 then acc.map (shT d) else acc.map (shT d) ++ [(p.1, p.2.1, ((a + d : Nat) : Int))]) = (if p.1 = 0 then acc else acc ++ [(p.1, p.2.1, (a : Int))]).map (shT d) := by
            split
            · rfl
            · rw [List.map_append]; simp [shT]
          rw [e, show a + d + p.2.2.toNat = a + p.2.2.toNat + d by omega]
          exact ih _ _
theorem ext_app (p s : ByteArray) (a : Nat) : (p ++ s).extract (a + p.size) (p ++ s).size = s.extract a s.size := by
  apply ByteArray.ext
  apply Array.ext'
  rw [ext_list, ext_list]
  have : (p ++ s).data.toList = p.data.toList ++ s.data.toList := by simp
  rw [this, Nat.add_comm, ← List.drop_drop]
  have hp : p.size = p.data.toList.length := rfl
  rw [hp, List.drop_left]
abbrev ahead : ByteArray := ⟨#[32, 47, 42, 47, 42, 42, 47, 42, 47, 10]⟩
theorem ahead_rem (l : Tx) : remL 1 ([47, 42, 42, 47, 42, 47, 10] ++ l) = some 6 := by
  show remL 1 (47 :: 42 :: 42 :: 47 :: 42 :: 47 :: 10 :: l) = some 6
  rw [remL, if_pos (by rfl)]
  show (remL 2 (42 :: 47 :: 42 :: 47 :: 10 :: l)).map (· + 2) = some 6
  rw [remL, if_neg (by simp), if_pos (by rfl)]
  show ((remL 1 (42 :: 47 :: 10 :: l)).map (· + 2)).map (· + 2) = some 6
  rw [remL, if_neg (by simp), if_pos (by rfl)]
  show (((remL 0 (10 :: l)).map (· + 2)).map (· + 2)).map (· + 2) = some 6
  rw [remL]; rfl
theorem scan_ahead (s : ByteArray) : scanF (ahead ++ s) 0 [] = shR 10 (scanF s 0 []) := by
  obtain ⟨x, hx⟩ : ∃ x, ahead ++ s = x := ⟨_, rfl⟩
  have hxl : x.data.toList = 32 :: 47 :: 42 :: 47 :: 42 :: 42 :: 47 :: 42 :: 47 :: 10 :: s.data.toList := by rw [← hx]; simp
  have hsz : x.size = s.size + 10 := by
    have e : x.size = x.data.toList.length := rfl
    have e2 : s.size = s.data.toList.length := rfl
    rw [e, hxl, e2]; rfl
  rw [hx]
  have s1 : scanF x 0 [] = scanF x 1 [] := scan_blank x 0 [] (by omega) (by rw [hxl]; show fiveQ 32 = true; decide)
  have s2 : scanF x 1 [] = scanF x 9 [] := by
    have h1 : x.data.toList.drop 1 = 47 :: 42 :: 47 :: 42 :: 42 :: 47 :: 42 :: 47 :: 10 :: s.data.toList := by rw [hxl]; rfl
    have h := scan_rem x 1 [] (by omega) (by rw [h1]; show fiveQ 47 = false; decide) (by rw [h1]; rfl)
    have hr : remAt x 1 = some 9 := by
      unfold remAt
      have h3 : x.data.toList.drop (1 + 2) = [47, 42, 42, 47, 42, 47, 10] ++ s.data.toList := by rw [hxl]; rfl
      rw [h3, ahead_rem]; rfl
    rw [hr] at h
    exact h
  have s3 : scanF x 9 [] = scanF x 10 [] := by
    have h1 : x.data.toList.drop 9 = 10 :: s.data.toList := by rw [hxl]; rfl
    exact scan_blank x 9 [] (by omega) (by rw [h1]; show fiveQ 10 = true; decide)
  rw [s1, s2, s3]
  have hsh := scan_shift s x 10 hsz (fun a => by rw [← hx]; exact ext_app ahead s a) (s.size + 1) 0 []
  unfold scanF
  rw [← hsh]
  exact scan_fuel x s.size _ _ 10 [] (by omega) (by omega) (by omega)
end Go.Proofs.YtgnpkpboilnijaaGreatDoor
