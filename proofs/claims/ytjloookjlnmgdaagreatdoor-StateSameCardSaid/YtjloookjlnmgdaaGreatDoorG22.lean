/- For layer 8's laws: what is laid is what the commands ask of memory; the wrap of a tied card that hands it on.
   Arguments opened: a command, a state. Condition: none.
   StateBack's walk.
   Right as plain words; what a command with a text is. No program; no condition.
   What the document's Light tells. Condition: none.
   StateTwice's walk. -/
import Derived.Test.YtjloookjlnmgdaaGreatDoorG21
import Derived.Test.YtjloookjlnmgdaaGreatDoorG17
import Derived.Lib.LaidU8
import Derived.Stop.LaidErr
import Derived.Test.YtjloookjlnmgdaaGreatDoorG1
import Derived.Deep.Slices
import Derived.Deep.Fields
import Derived.ChangeSame
import Derived.Lib.SmallJoins
import Derived.Test.YtjloookjlnmgdaaGreatDoorG13
import Derived.Test.YtjloookjlnmgdaaGreatDoorG20
import Derived.Test.YtjloookjlnmgdaaGreatDoorG2
import Derived.Deep.LoopGhost
set_option linter.unusedSimpArgs false
set_option linter.unusedVariables false
namespace Go.Proofs.YtjloookjlnmgdaaGreatDoor
open Go.ChangeShapes Go.WideShapes Go.ChangeAt Go.RowKit
set_option maxRecDepth 100000
set_option linter.unusedVariables false
set_option linter.unusedSimpArgs false

theorem returns_laid {H : Type} {enc : TypeId × Value → H} {a : Assume} {C : Checked} {os : Os} {f : FuncId} {fn : Func} {s : ChangeSpec} {conds : List PathCond} {apart fresh handsOn again : Bool} {laid : List (String × DataW Unit)}
    (hpl : (laid.all fun x => x.2.handleName?.isNone) = true)
    (own : ownKnob C.prog.godebug = none) (started : os.Started) (noInit : C.prog.inits.idxOf? f = none) (hfn : C.prog.funcs[f]? = some fn)
    (witness : ∃ (w : World) (tape : Tape) (i : Input), w.os = os ∧ (w.forCall tape i).Shaped C.prog ∧ i.vars = [] ∧ Input.okWide C.prog (w.forCall tape i) .any w.heap.size f i ∧
      ((s.pre enc C.prog fn conds apart (w.forCall tape i).memory i.args ∧ laidMetH C.prog laid (w.forCall tape i).memory) ∧ sizedMet enc C.prog fn (OpenSpec.ofChange s) apart (w.forCall tape i).memory i.args) ∧ a.holds C.prog (lone (Frame.enter C.prog f i.args .normal) [] (w.forCall tape i)))
    (contract : ∀ (W : World) (base : Nat) (args : Array Value) (ds gs : List (DataW H)) (before : List MemPlace),
      (∀ (j : Nat) t v, fn.params[j]? = some t → args[j]? = some v → Value.okWide C.prog W .any base t v) →
      DataW.Whole enc C.prog fn.params.toList s.vars apart W args.toList ds gs before →
      conds.all (PathCond.test C.prog ⟨fn.params.toList, ds, s.plain.varTypes C.prog, gs⟩) = true →
      (DataW.weightsEach C.prog (fn.params.toList ++ s.plain.varTypes C.prog) (ds ++ gs)).all (· ≤ reachBytes) = true →
      W.ShapedOpen C.prog ∧ laidMet C.prog laid W →
      a.holds C.prog (lone (Frame.enter C.prog f args .normal) [] W) →
      Calls C.prog f args W fun e W' => ∃ v, e = .returned v ∧ s.post enc C.prog fn apart fresh handsOn again W args v W') :
    ReturnsInHanded a C os f .any (fun w args => (s.pre enc C.prog fn conds apart w args ∧ laidMetH C.prog laid w) ∧ sizedMet enc C.prog fn (OpenSpec.ofChange s) apart w args) (s.post enc C.prog fn apart fresh handsOn again) := by
  refine returnsInHanded_of_calls own started noInit witness ?_
  intro w tape i _ hsh _ hok hpre hholds
  obtain ⟨_, _, _, fn', hfn', _, _, _, _, hval⟩ := hok
  obtain rfl : fn' = fn := Option.some.inj (hfn'.symm.trans hfn)
  obtain ⟨⟨⟨ds, gs, before, hw, hc⟩, hx⟩, hz⟩ := hpre
  rw [MakeChecks.laidMetH_plain _ _ _ hpl] at hx
  refine (contract (w.forCall tape i) w.heap.size i.args ds gs before hval (DataW.Whole.of_heap (w' := w.forCall tape i) (by rfl) hw) hc (hz.weights hw) ⟨hsh, laidMet.of_heap (w := (w.forCall tape i).memory) (w' := w.forCall tape i) rfl hx⟩ hholds).mono fun e W' ⟨v, he, hp⟩ => ?_
  subst he
  exact ChangeSpec.post_blind hp

/-- one form's cells -/
theorem form_cells {W : World} {fuel : Nat} {cs : List Value} {p : List MemPlace} {k : Int} {b : Bool} {s : List UInt8} (h : DataW.trod (fun _ => ()) Tryz.prog W 0 (fun _ => true) false fuel 51 cs = some (.agg [.lit (.int .i64 k), .lit (.bool b), .lit (.string s)], p)) :
    cs = [.int .i64 k, .bool b, .string ⟨s.toArray⟩] := by
  have hu := Tryz.underlying51
  have hct : Tryz.prog.cellsOf 51 = 3 := by kernel_rfl
  have c3 : Tryz.prog.cellsOf 3 = 1 := by kernel_rfl
  have c4 : Tryz.prog.cellsOf 4 = 1 := by kernel_rfl
  have c9 : Tryz.prog.cellsOf 9 = 1 := by kernel_rfl
  obtain ⟨xs, n, rfl, hx, hl, hxl, hall⟩ := DataW.trod_struct hu h
  rw [hct] at hl
  have hxs : xs.map (·.1) = [.lit (.int .i64 k), .lit (.bool b), .lit (.string s)] := by
    have := congrArg Prod.fst hx
    simpa using this.symm
  match cs, hl with
  | [a0, a1, a2], _ =>
    match xs, hxl, hxs, hall with
    | [y0, y1, y2], _, hxs, hall =>
      have h0 : DataW.trod (fun _ => ()) Tryz.prog W 0 (fun _ => true) false n 3 ((([a0, a1, a2] : List Value).drop 0).take (Tryz.prog.cellsOf 3)) = ([y0, y1, y2] : List (DataW Unit × List MemPlace))[0]? := hall 0 _ rfl
      have h1 : DataW.trod (fun _ => ()) Tryz.prog W 0 (fun _ => true) false n 4 ((([a0, a1, a2] : List Value).drop 1).take (Tryz.prog.cellsOf 4)) = ([y0, y1, y2] : List (DataW Unit × List MemPlace))[1]? := hall 1 _ rfl
      have h2 : DataW.trod (fun _ => ()) Tryz.prog W 0 (fun _ => true) false n 9 ((([a0, a1, a2] : List Value).drop 2).take (Tryz.prog.cellsOf 9)) = ([y0, y1, y2] : List (DataW Unit × List MemPlace))[2]? := hall 2 _ rfl
      rw [c3] at h0
      rw [c4] at h1
      rw [c9] at h2
      obtain ⟨y00, y01⟩ := y0
      obtain ⟨y10, y11⟩ := y1
      obtain ⟨y20, y21⟩ := y2
      obtain ⟨z, e0, f0, _⟩ := DataW.trod_int (x := (y00, y01)) Tryz.underlying3 h0
      obtain ⟨q, e1, f1⟩ := DataW.trod_bool (x := (y10, y11)) Tryz.underlying4 h1
      obtain ⟨r, e2, f2, _⟩ := DataW.trod_string (x := (y20, y21)) Tryz.underlying9 h2
      injection f0 with f0 _
      injection f1 with f1 _
      injection f2 with f2 _
      subst f0 f1 f2
      simp only [List.map_cons, List.map_nil, List.cons.injEq, and_true, DataW.lit.injEq, Lit.int.injEq, Lit.bool.injEq, Lit.string.injEq, true_and, List.drop_zero, List.drop_succ_cons, List.take_succ_cons, List.take_zero] at hxs e0 e1 e2
      obtain ⟨g0, g1, g2⟩ := hxs
      subst e0 e1 e2 g0 g1 g2
      rfl
theorem forms_laid {W : World} (h : Lib.VarReads Tryz.prog W "pontoon/state.forms" Rows.laid_pontoon_state_forms) : ∃ t fr, W.heap[0]? = some (.cells formCells t fr) := by
  obtain ⟨g, t, cs, fuel, p, hg, hty, hvar, hd⟩ := h
  obtain rfl := Option.some.inj ((show Tryz.prog.globalNamed "pontoon/state.forms" = some 0 by kernel_rfl).symm.trans hg)
  obtain rfl := Option.some.inj ((show (Tryz.prog.globals[0]?).map (·.type) = some 52 by kernel_rfl).symm.trans hty)
  have hc51 : Tryz.prog.cellsOf 51 = 3 := by kernel_rfl
  have hc52 : Tryz.prog.cellsOf 52 = 21 := by kernel_rfl
  have hel := fun i hi => Lib.array_elem Tryz.underlying52 hd i hi
  rw [hc51] at hel
  have hcl : cs.toList.length = 21 := by
    cases fuel with
    | zero => simp [DataW.trod] at hd
    | succ fuel =>
      simp only [DataW.trod, Tryz.underlying52, hc51, hc52] at hd
      split at hd
      · rename_i hl; simpa using hl
      · cases hd
  have key : ∀ (i : Nat) (hi : i < 7) (k : Int) (b : Bool) (s : List UInt8), (match Rows.laid_pontoon_state_forms (H := Unit) with | .agg ds => ds[i]? | _ => none) = some (.agg [.lit (.int .i64 k), .lit (.bool b), .lit (.string s)]) → (cs.toList.drop (i * 3)).take 3 = [.int .i64 k, .bool b, .string ⟨s.toArray⟩] := by
    intro i hi k b s hs
    obtain ⟨f', d, q, h1, h2⟩ := hel i hi
    have : some d = some (DataW.agg [.lit (.int .i64 k), .lit (.bool b), .lit (.string s)]) := h1.symm.trans hs
    injection this with this
    subst this
    exact form_cells h2
  have k0 := key 0 (by decide) _ _ _ rfl
  have k1 := key 1 (by decide) _ _ _ rfl
  have k2 := key 2 (by decide) _ _ _ rfl
  have k3 := key 3 (by decide) _ _ _ rfl
  have k4 := key 4 (by decide) _ _ _ rfl
  have k5 := key 5 (by decide) _ _ _ rfl
  have k6 := key 6 (by decide) _ _ _ rfl
  have hcs : cs.toList = formsC.flatMap fmCells := by
    have split7 : cs.toList = (cs.toList.drop (0 * 3)).take 3 ++ ((cs.toList.drop (1 * 3)).take 3 ++ ((cs.toList.drop (2 * 3)).take 3 ++ ((cs.toList.drop (3 * 3)).take 3 ++ ((cs.toList.drop (4 * 3)).take 3 ++ ((cs.toList.drop (5 * 3)).take 3 ++ (cs.toList.drop (6 * 3)).take 3))))) := by
      generalize cs.toList = L at hcl
      match L, hcl with
      | [_, _, _, _, _, _, _, _, _, _, _, _, _, _, _, _, _, _, _, _, _], _ => rfl
    rw [split7, k0, k1, k2, k3, k4, k5, k6]
    rfl
  have hce : cs = formCells := by
    apply Array.toList_inj.1
    rw [hcs]
    rfl
  subst hce
  unfold World.var? at hvar
  rw [hg] at hvar
  simp only [Option.bind_some] at hvar
  split at hvar
  · rename_i c t fr he
    injection hvar with hvar
    subst hvar
    exact ⟨t, fr, he⟩
  · cases hvar
theorem star_err : "*" ++ "errors.errorString" = "*errors.errorString" := by decide
theorem row_err (u : TypeId) (h : Tryz.prog.typeName? 3 u = some "*errors.errorString") : u = 251 :=
  typeName_ptr_named (nm := "errors.errorString") (by rw [star_err]; kernel_rfl) (by kernel_rfl) (by decide) u (by rw [star_err]; exact h)
theorem wq_laid {W : World} (hs : W.ShapedOpen Tryz.prog) (hL : laidMet Tryz.prog Rows.stateBackRow.laid W) : ∃ m, Wq m W := by
  obtain ⟨m, hm⟩ := the_word hs
  refine ⟨m, hm, ?_, ?_, ?_⟩
  · have h3 : laidMet Tryz.prog (("internal/strconv.uint64pow10", Lib.tabData .u64 Lib.pow10Tab) :: _) W := hL.tail.tail
    exact Lib.tabIs_of_head (show Tryz.prog.globalNamed "internal/strconv.uint64pow10" = some 2 by kernel_rfl) (by kernel_rfl) Tryz.underlying206 Tryz.underlying169 (by kernel_rfl) (by kernel_rfl) h3
  · exact forms_laid (Lib.laidMet.reads hL (by simp [Rows.stateBackRow]))
  · obtain ⟨a, s, hv, _⟩ := laid_sentinel (hL.tail.tail.tail.tail.tail) (show Tryz.prog.globalNamed "strconv.ErrSyntax" = some 3 by kernel_rfl) (by kernel_rfl) Tryz.underlying143 row_err Tryz.underlying251 Tryz.underlying253 rfl rfl Tryz.underlying9 (by kernel_rfl) (by kernel_rfl)
    refine ⟨_, World.var?_cell (show Tryz.prog.globalNamed "strconv.ErrSyntax" = some 3 by kernel_rfl) hv 0, .inr ⟨_, _, rfl⟩⟩
end Go.Proofs.YtjloookjlnmgdaaGreatDoor
namespace Go.Proofs.YtjloookjlnmgdaaGreatDoor
set_option linter.unusedSimpArgs false
open Go.ChangeShapes Go.WideShapes Go.ChangeAt Go.RowKit
set_option maxRecDepth 100000
open Go.ChangeMaps (open_string shut_string)
open Go.Deep
set_option linter.unusedVariables false

theorem one_int : Tryz.prog.cellsOf 3 = 1 := by kernel_rfl
theorem one_bool : Tryz.prog.cellsOf 4 = 1 := by kernel_rfl
theorem one_str : Tryz.prog.cellsOf 9 = 1 := by kernel_rfl
theorem one_rows : Tryz.prog.cellsOf 36 = 1 := by kernel_rfl
/-- v is a command -/
def FitsC (W : World) (v : Value) : Prop := ∃ (kd : Int) (n : ByteArray) (K V : Int) (kb : Bool), v = .agg #[.int .i64 kd, .string n, .int .i64 K, .int .i64 V, .bool kb] ∧ i64B kd ∧ i64B K ∧ i64B V ∧ n.size ≤ 140737488351232
theorem i64_of (x : Int) (h : (Lit.int .i64 x).wf = true) : i64B x := by
  unfold i64B
  simp [Lit.wf, IntKind.min, IntKind.max, IntKind.signed, IntKind.bits] at h
  omega
theorem openedC {H : Type} {enc : TypeId × Value → H} {W : World} {base : Nat} {v : Value} {d : DataW H} {p : List MemPlace} (hv : Value.okWide Tryz.prog W .any base 24 v)
    (h : DataW.Trod enc Tryz.prog W 0 (fun _ => true) true 24 v d p) (hz : (DataW.weights Tryz.prog 24 d).all (· ≤ reachBytes) = true) : FitsC W v := by
  obtain ⟨cs, rfl, hsz⟩ := okWide_struct Tryz.underlying24 hv
  rw [show Tryz.prog.cellsOf 24 = 5 by kernel_rfl] at hsz
  obtain ⟨cs⟩ := cs
  obtain ⟨fuel, hf⟩ := h
  obtain ⟨xs, n, _, hx, _, hxl, hat⟩ := DataW.trod_struct Tryz.underlying24 hf
  match cs, hsz with
  | [c0, c1, c2, c3, c4], _ =>
  match xs, hxl with
  | [y0, y1, y2, y3, y4], _ =>
  simp only [Prod.mk.injEq] at hx
  have h0 : DataW.trod enc Tryz.prog W 0 (fun _ => true) true n 3 (List.take (Tryz.prog.cellsOf 3) (List.drop 0 [c0, c1, c2, c3, c4])) = some y0 := hat 0 _ rfl
  have h1 : DataW.trod enc Tryz.prog W 0 (fun _ => true) true n 9 (List.take (Tryz.prog.cellsOf 9) (List.drop 1 [c0, c1, c2, c3, c4])) = some y1 := hat 1 _ rfl
  have h2 : DataW.trod enc Tryz.prog W 0 (fun _ => true) true n 3 (List.take (Tryz.prog.cellsOf 3) (List.drop 2 [c0, c1, c2, c3, c4])) = some y2 := hat 2 _ rfl
  have h3 : DataW.trod enc Tryz.prog W 0 (fun _ => true) true n 3 (List.take (Tryz.prog.cellsOf 3) (List.drop 3 [c0, c1, c2, c3, c4])) = some y3 := hat 3 _ rfl
  have h4 : DataW.trod enc Tryz.prog W 0 (fun _ => true) true n 4 (List.take (Tryz.prog.cellsOf 4) (List.drop 4 [c0, c1, c2, c3, c4])) = some y4 := hat 4 _ rfl
  have hW : ∀ k ∈ DataW.weights Tryz.prog 9 y1.1, k ≤ reachBytes := by
    intro k hk
    refine of_decide_eq_true (List.all_eq_true.1 hz k ?_)
    rw [hx.1]
    simp only [DataW.weights, Tryz.underlying24]
    exact DataW.weights_mem_each (j := 1) (t := 9) (d := y1.1) rfl rfl k hk
  clear hat hf hv hz
  rw [one_int] at h0 h2 h3
  rw [one_str] at h1
  rw [one_bool] at h4
  obtain ⟨x0, e0, _, w0⟩ := DataW.trod_int Tryz.underlying3 h0
  obtain ⟨x1, e1, d1, _⟩ := DataW.trod_string Tryz.underlying9 h1
  obtain ⟨x2, e2, _, w2⟩ := DataW.trod_int Tryz.underlying3 h2
  obtain ⟨x3, e3, _, w3⟩ := DataW.trod_int Tryz.underlying3 h3
  obtain ⟨x4, e4, _⟩ := DataW.trod_bool Tryz.underlying4 h4
  injection e0 with e0 _
  injection e1 with e1 _
  injection e2 with e2 _
  injection e3 with e3 _
  injection e4 with e4 _
  subst e0 e1 e2 e3 e4
  refine ⟨x0, x1, x2, x3, x4, rfl, i64_of _ w0, i64_of _ w2, i64_of _ w3, ?_⟩
  have := hW x1.data.toList.length (by rw [d1]; simp [DataW.weights])
  rw [← Lib.size_eq] at this
  exact this
section
variable {H : Type} {enc : TypeId × Value → H} {W : World}
theorem one_row_of {n : Nat} {cs : List Value} {x : DataW H × List MemPlace} (ht : DataW.trod enc Tryz.prog W 0 (fun _ => true) true n 45 cs = some x) :
    ∃ r : Rw, cs[0]? = some (.int .i64 r.1) ∧ cs[1]? = some (.int .i64 r.2) := by
  obtain ⟨xs, m, _, hx, hl, hxl, hf⟩ := DataW.trod_struct Tryz.underlying45 ht
  match xs, hxl with
  | [y0, y1], _ =>
    have h0 : DataW.trod enc Tryz.prog W 0 (fun _ => true) true m 3 (List.take (Tryz.prog.cellsOf 3) (List.drop 0 cs)) = some y0 := hf 0 _ rfl
    have h1 : DataW.trod enc Tryz.prog W 0 (fun _ => true) true m 3 (List.take (Tryz.prog.cellsOf 3) (List.drop 1 cs)) = some y1 := hf 1 _ rfl
    rw [one_int] at h0 h1
    obtain ⟨x, e0, _, w0⟩ := DataW.trod_int Tryz.underlying3 h0
    obtain ⟨z, e1, _, w1⟩ := DataW.trod_int Tryz.underlying3 h1
    refine ⟨(x, z), ?_, ?_⟩
    · have := congrArg (·[0]?) e0
      simpa using this
    · have := congrArg (·[0]?) e1
      simpa using this
theorem spot_none {ad : Addr} {x : Value} (h : W.cell? ad = some x) : ad.spot = none := by
  unfold World.cell? at h
  cases hs : ad.spot with
  | none => rfl
  | some q => rw [hs] at h; revert h; split <;> simp
/-- a slice of elements of two cells, element by element -/
theorem slice2 {α : Type} {ts te : TypeId} {Q : α → Value → Value → Prop} (hu : Tryz.prog.underlying ts = some (.slice te)) (hC : Tryz.prog.cellsOf te = 2)
    (one : ∀ {n : Nat} {cs : List Value} {x : DataW H × List MemPlace}, DataW.trod enc Tryz.prog W 0 (fun _ => true) true n te cs = some x → ∃ (a : α) (v0 v1 : Value), cs[0]? = some v0 ∧ cs[1]? = some v1 ∧ Q a v0 v1)
    {fuel : Nat} {c : Value} {x : DataW H × List MemPlace} (h : DataW.trod enc Tryz.prog W 0 (fun _ => true) true fuel ts [c] = some x) :
    c = .slice none 0 0 ∨ ∃ (l : List α) (ad : Addr) (cap : Nat), c = .slice (some ad) l.length cap ∧ l.length ≤ cap ∧ ∀ (i : Nat) (a : α), l[i]? = some a → ∃ v0 v1, W.cell? (ad.add (i * 2)) = some v0 ∧ W.cell? ((ad.add (i * 2)).add 1) = some v1 ∧ Q a v0 v1 := by
  rcases open_slice hu h with ⟨e, _⟩ | ⟨ad, len, cap, m, n, D, Pl, hcs, hb, hl, hm, hmm, hx, hi⟩
  · injection e with e _
    exact .inl e
  · injection hcs with hcs _
    subst hcs
    rw [hC] at hi
    have hlm : len ≤ m := by rw [hmm]; simp; exact hl
    have key : ∀ j, j ≤ len → ∃ l : List α, l.length = j ∧ ∀ (i : Nat) (a : α), l[i]? = some a → ∃ v0 v1, W.cell? (ad.add (i * 2)) = some v0 ∧ W.cell? ((ad.add (i * 2)).add 1) = some v1 ∧ Q a v0 v1 := by
      intro j
      induction j with
      | zero => intro _; exact ⟨[], rfl, fun i x hi => by simp at hi⟩
      | succ j ih =>
        intro hj
        obtain ⟨l, h1, h2⟩ := ih (by omega)
        obtain ⟨cs', hc, ht⟩ := hi j (by omega)
        obtain ⟨_, hcl, hat⟩ := World.cells?_some hc
        obtain ⟨a, v0, v1, e0, e1, hq⟩ := one ht
        refine ⟨l ++ [a], by simp [h1], fun i x hx' => ?_⟩
        by_cases hij : i < l.length
        · rw [List.getElem?_append_left hij] at hx'
          exact h2 i x hx'
        · have hlt := (List.getElem?_eq_some_iff.1 hx').1
          have hie : i = j := by simp at hlt; omega
          subst hie
          rw [List.getElem?_append_right (by omega), h1, Nat.sub_self] at hx'
          simp at hx'
          subst hx'
          have a0 := hat 0 (by omega)
          have a1 := hat 1 (by omega)
          rw [e0] at a0
          rw [e1] at a1
          exact ⟨v0, v1, by simpa [Addr.add] using a0, a1, hq⟩
    obtain ⟨l, h1, h2⟩ := key len (Nat.le_refl _)
    exact .inr ⟨l, ad, cap, by rw [h1], by omega, h2⟩
theorem slice2_at {α : Type} {Q : α → Value → Value → Prop} {l : List α} {ad : Addr} (h2 : ∀ (i : Nat) (a : α), l[i]? = some a → ∃ v0 v1, W.cell? (ad.add (i * 2)) = some v0 ∧ W.cell? ((ad.add (i * 2)).add 1) = some v1 ∧ Q a v0 v1) (h0 : l ≠ []) :
    ∃ g off, ad = ⟨g, off, none⟩ ∧ ∀ (i : Nat) (a : α), l[i]? = some a → ∃ v0 v1, W.cell? ⟨g, off + i * 2, none⟩ = some v0 ∧ W.cell? ⟨g, off + i * 2 + 1, none⟩ = some v1 ∧ Q a v0 v1 := by
  obtain ⟨x, hx0⟩ : ∃ x, l[0]? = some x := ⟨l[0]'(by cases l; exact absurd rfl h0; simp), List.getElem?_eq_getElem _⟩
  obtain ⟨v0, _, c0, _⟩ := h2 0 x hx0
  have e : ad.add (0 * 2) = ad := by simp [Addr.add]
  rw [e] at c0
  have hsp := spot_none c0
  obtain ⟨bl, of, sp⟩ := ad
  simp only at hsp
  subst hsp
  refine ⟨bl, of, rfl, fun i y hy => ?_⟩
  obtain ⟨w0, w1, d0, d1, hq⟩ := h2 i y hy
  rw [Addr.add_lit] at d0 d1
  rw [Addr.add_lit] at d1
  exact ⟨w0, w1, d0, d1, hq⟩
theorem rows_of {fuel : Nat} {c : Value} {x : DataW H × List MemPlace} (h : DataW.trod enc Tryz.prog W 0 (fun _ => true) true fuel 36 [c] = some x) : ∃ l : List Rw, RR W c l := by
  rcases slice2 (α := Rw) (Q := fun r v0 v1 => v0 = .int .i64 r.1 ∧ v1 = .int .i64 r.2) Tryz.underlying36 (by kernel_rfl) (fun ht => by
    obtain ⟨r, h0, h1⟩ := one_row_of ht
    exact ⟨r, _, _, h0, h1, rfl, rfl⟩) h with rfl | ⟨l, ad, cap, rfl, hc, h2⟩
  · exact ⟨[], .inl ⟨_, _, rfl, rfl⟩⟩
  · refine ⟨l, ?_⟩
    by_cases h0 : l = []
    · subst h0; exact .inl ⟨_, _, rfl, rfl⟩
    · obtain ⟨g, off, rfl, h3⟩ := slice2_at h2 h0
      refine .inr ⟨g, off, cap, rfl, hc, fun i r hr => ?_⟩
      obtain ⟨v0, v1, d0, d1, rfl, rfl⟩ := h3 i r hr
      exact ⟨d0, d1⟩
theorem one_tab_of {n : Nat} {cs : List Value} {x : DataW H × List MemPlace} (ht : DataW.trod enc Tryz.prog W 0 (fun _ => true) true n 43 cs = some x) :
    ∃ (t : Tb) (v0 v1 : Value), cs[0]? = some v0 ∧ cs[1]? = some v1 ∧ v0 = .string t.1 ∧ RR W v1 t.2 := by
  obtain ⟨xs, m, _, hx, hl, hxl, hf⟩ := DataW.trod_struct Tryz.underlying43 ht
  rw [show Tryz.prog.cellsOf 43 = 2 by kernel_rfl] at hl
  match cs, hl with
  | [c0, c1], _ =>
  match xs, hxl with
  | [y0, y1], _ =>
    have h0 : DataW.trod enc Tryz.prog W 0 (fun _ => true) true m 9 (List.take (Tryz.prog.cellsOf 9) (List.drop 0 [c0, c1])) = some y0 := hf 0 _ rfl
    have h1 : DataW.trod enc Tryz.prog W 0 (fun _ => true) true m 36 (List.take (Tryz.prog.cellsOf 36) (List.drop 1 [c0, c1])) = some y1 := hf 1 _ rfl
    rw [one_str] at h0
    rw [one_rows] at h1
    obtain ⟨z, e0, _, _⟩ := DataW.trod_string Tryz.underlying9 h0
    injection e0 with e0 _
    obtain ⟨l, hr⟩ := rows_of h1
    exact ⟨(z, l), c0, c1, rfl, rfl, e0, hr⟩
end
/-- v reads as a state -/
def FitsS (W : World) (v : Value) : Prop := ∃ s : List Tb, SR W v s
theorem openedS {H : Type} {enc : TypeId × Value → H} {W : World} {base : Nat} {v : Value} {d : DataW H} {p : List MemPlace} (hv : Value.okWide Tryz.prog W .any base 32 v)
    (h : DataW.Trod enc Tryz.prog W 0 (fun _ => true) true 32 v d p) (hz : (DataW.weights Tryz.prog 32 d).all (· ≤ reachBytes) = true) : FitsS W v := by
  obtain ⟨a, ln, cp, rfl⟩ := okWide_slice Tryz.underlying32 hv
  obtain ⟨fuel, hf⟩ := h
  rcases slice2 (α := Tb) (Q := fun t v0 v1 => v0 = .string t.1 ∧ RR W v1 t.2) Tryz.underlying32 (by kernel_rfl) (fun ht => one_tab_of ht) hf with e | ⟨l, ad, cap, e, hc, h2⟩
  · rw [e]; exact ⟨[], .inl ⟨_, _, rfl, rfl⟩⟩
  · rw [e]
    refine ⟨l, ?_⟩
    by_cases h0 : l = []
    · subst h0; exact .inl ⟨_, _, rfl, rfl⟩
    · obtain ⟨g, off, rfl, h3⟩ := slice2_at h2 h0
      refine .inr ⟨g, off, cap, rfl, hc, fun i r hr => ?_⟩
      obtain ⟨v0, v1, d0, d1, rfl, hr1⟩ := h3 i r hr
      exact ⟨d0, v1, d1, hr1⟩
end Go.Proofs.YtjloookjlnmgdaaGreatDoor
namespace Go.Proofs.YtjloookjlnmgdaaGreatDoor
open Go.ChangeShapes Go.WideShapes Go.ChangeAt Go.RowKit
set_option maxRecDepth 100000
set_option linter.unusedVariables false
set_option linter.unusedSimpArgs false

theorem rscanT (s : ByteArray) (w : World) : Calls Tryz.prog 26 #[.string s] w fun e w' => ∃ v, e = .returned (.tuple #[v, .int .i64 (scanA s).2.1, .int .i64 (scanA s).2.2]) ∧ TR w' v (scanA s).1 ∧ Below w.heap.size w w' := rscan_any s w
theorem cmdT (s : ByteArray) (R : Cm × Bool) (hR : cmdA (scanA s).1 = R) (v : Value) (m : Int) (w : World) (hw : Wq m w) (h : TR w v (scanA s).1) : Calls Tryz.prog 10 #[v] w fun e w' => e = .returned (.tuple #[cmV R.1, .bool R.2]) ∧ Below w.heap.size w w' := by
  have := command_any (scanA s).1 v m w hw h (fun t ht => Nat.le_trans (scanA_txt s t ht) (by decide))
  rw [hR] at this
  exact this
theorem cmdTZ (s : ByteArray) (hR : cmdA (scanA s).1 = (cmdZ, false)) (v : Value) (m : Int) (w : World) (hw : Wq m w) (h : TR w v (scanA s).1) : Calls Tryz.prog 10 #[v] w fun e w' => e = .returned (.tuple #[.agg #[.int .i64 0, .string ⟨#[]⟩, .int .i64 0, .int .i64 0, .bool false], .bool false]) ∧ Below w.heap.size w w' :=
  cmdT s _ hR v m w hw h
theorem eqC_self (c : Cm) : eqC c c = true := (eqC_iff c c).2 rfl
theorem neq_cm (a b : Cm) (w : World) : (binOp .neq 24 (cmV a) (cmV b)).run Tryz.prog w = .ok (.bool (!(eqC a b))) w := by
  obtain ⟨a0, a1, a2, a3, a4⟩ := a
  obtain ⟨b0, b1, b2, b3, b4⟩ := b
  unfold eqC
  go_simp
  by_cases h0 : a0 = b0
  · by_cases h1 : a1.toList = b1.toList
    · by_cases h2 : a2 = b2
      · by_cases h3 : a3 = b3
        · by_cases h4 : a4 = b4
          · simp [h0, h1, h2, h3, h4]
          · simp [h0, h1, h2, h3, h4]
        · simp [h0, h1, h2, h3]
      · simp [h0, h1, h2]
    · simp [h0, h1]
  · simp [h0]
theorem bb_emp (T : Tx) (h : T ≠ []) : (bb T).toList.isEmpty = false := by
  rw [emp_iff, decide_eq_false_iff_not, bb_size]
  exact fun e => h (List.eq_nil_of_length_eq_zero e)
theorem ok_bounds {c : Cm} (h : okC c = true) : c.2.1.size ≤ 30 ∧ inN c.2.2.1 = true ∧ inN c.2.2.2.1 = true := by
  obtain ⟨⟨h1, h2, h3⟩, _⟩ := ok_parts c h
  unfold nameB at h1
  simp only [Bool.and_eq_true, decide_eq_true_eq] at h1
  exact ⟨h1.1.1.1, h2, h3⟩
theorem textT (c : Cm) (h : textC c ≠ []) (m : Int) (w : World) (hw : Wq m w) : Calls Tryz.prog 12 #[cmV c] w fun e w' => e = .returned (.string (bb (textC c))) ∧ Below w.heap.size w w' := by
  obtain ⟨q, _, _, _, hok, _⟩ := text_some c h
  obtain ⟨h1, h2, h3⟩ := ok_bounds hok
  have h2 := of_decide_eq_true h2
  have h3 := of_decide_eq_true h3
  exact text_any c m w hw (by omega) ⟨by omega, by omega⟩ ⟨by omega, by omega⟩
set_option maxHeartbeats 8000000 in
theorem back_ef (c : Cm) (s : ByteArray) (m : Int) (w : World) (hm : Wq m w) (hn : c.2.1.size ≤ 200) (hs : s.size ≤ 1000) (hK : i64B c.2.2.1) (hV : i64B c.2.2.2.1) (hT : textC c = []) (hF : (cmdA (scanA s).1).2 = true) :
    Calls Tryz.prog 6 #[cmV c, .string s] w fun e w' => e = .returned (.bool true) ∧ Below w.heap.size w w' := by
  have HM0 := Lib.hid hm
  have HB0 := Lib.hid (Below.refl w.heap.size w)
  have HTX := Lib.hid (fun W hW => text_any c m W hW (Nat.le_trans hn (by decide)) hK hV)
  have l1 : ¬ ((200 : Int) < (c.2.1.size : Int)) := by omega
  have l2 : ¬ ((1000 : Int) < (s.size : Int)) := by omega
  obtain ⟨R, hR⟩ : ∃ R, cmdA (scanA s).1 = R := ⟨_, rfl⟩
  have HR := Lib.hid hR
  rw [hR] at hF
  obtain ⟨c0, c1, c2, c3, c4⟩ := c
  simp only at l1
  rw [hT] at HTX
  have HTX : Hid (∀ W, Wq m W → Calls Tryz.prog 12 #[cmV (c0, c1, c2, c3, c4)] W fun e w' => e = .returned (.string ⟨#[]⟩) ∧ Below W.heap.size W w') := HTX
  obtain ⟨⟨d0, d1, d2, d3, d4⟩, b⟩ := R
  have hb : b = true := hF
  subst hb
  have hdt := cmd_text _ _ hR
  have HDT := Lib.hid hdt
  have HDB := Lib.hid (cmd_back _ hdt)
  have qd := fun W => eq_cm (d0, d1, d2, d3, d4) (d0, d1, d2, d3, d4) W
  rw [eqC_self] at qd
  clear hdt
  clear hm hn hs hK hV hR hT hF
  go_enter Tryz.func6, Tryz.ntmps6
  go_wp2_with fail
  obtain ⟨W0, hW0⟩ : ∃ W0, w.alloc (.cells #[.int .i64 c0, .string c1, .int .i64 c2, .int .i64 c3, .bool c4] 24) = W0 := ⟨_, rfl⟩
  have hb1 : Below w.heap.size w W0 := by rw [← hW0]; exact (Below.refl _ _).alloc (Nat.le_refl _) _
  have HB1 := Lib.hid (HB0.out.trans (hb1.mono HB0.out.size))
  have HM1 := Lib.hid (HM0.out.below hb1)
  have hk0 : Blk W0 w.heap.size 24 (cmCells (c0, c1, c2, c3, c4)) := by rw [← hW0]; exact Blk.new _ _ _
  have HK := Lib.hid hk0
  rw [hW0]
  clear hW0 hk0
  clear hb1
  refine (HTX.out _ HM1.out).mono ?_
  rintro e w2 ⟨rfl, hb2⟩
  have HB2 := Lib.hid (HB1.out.trans (hb2.mono HB1.out.size))
  have HM2 := Lib.hid (HM1.out.below hb2)
  have HK := Lib.hid (HK.out.below hb2 (Blk.lt HK.out))
  clear hb2
  go_wp2_with fail
  refine (rscanT s _).mono ?_
  rintro e w3 ⟨vs, rfl, ts, hb3⟩
  have HB3 := Lib.hid (HB2.out.trans (hb3.mono HB2.out.size))
  have HM3 := Lib.hid (HM2.out.below hb3)
  have HK := Lib.hid (HK.out.below hb3 (Blk.lt HK.out))
  have HTS := Lib.hid ts
  clear hb3 ts
  go_wp2_with fail
  refine (cmdT s _ HR.out vs m _ HM3.out HTS.out).mono ?_
  rintro e w4 ⟨rfl, hb4⟩
  have HB4 := Lib.hid (HB3.out.trans (hb4.mono HB3.out.size))
  have HM4 := Lib.hid (HM3.out.below hb4)
  have HTS := Lib.hid (HTS.out.below hb4)
  have HK := Lib.hid (HK.out.below hb4 (Blk.lt HK.out))
  clear hb4
  go_wp2_with fail
  obtain ⟨W2, hW2⟩ : ∃ W2, w4.alloc (.cells #[.int .i64 d0, .string d1, .int .i64 d2, .int .i64 d3, .bool d4] 24) = W2 := ⟨_, rfl⟩
  have hb5 : Below w4.heap.size w4 W2 := by rw [← hW2]; exact (Below.refl _ _).alloc (Nat.le_refl _) _
  have HB5 := Lib.hid (HB4.out.trans (hb5.mono HB4.out.size))
  have HM5 := Lib.hid (HM4.out.below hb5)
  have HTS := Lib.hid (HTS.out.below hb5)
  have HK := Lib.hid (HK.out.below hb5 (Blk.lt HK.out))
  have hk2 : Blk W2 w4.heap.size 24 (cmCells (d0, d1, d2, d3, d4)) := by rw [← hW2]; exact Blk.new _ _ _
  have HD := Lib.hid hk2
  rw [hW2]
  obtain ⟨G, hG⟩ : ∃ G, w4.heap.size = G := ⟨_, rfl⟩
  rw [hG] at HD ⊢
  clear hW2 hk2 hG
  clear hb5
  refine (textT _ HDT.out m _ HM5.out).mono ?_
  rintro e w6 ⟨rfl, hb6⟩
  have HB6 := Lib.hid (HB5.out.trans (hb6.mono HB5.out.size))
  have HM6 := Lib.hid (HM5.out.below hb6)
  have HTS := Lib.hid (HTS.out.below hb6)
  have HK := Lib.hid (HK.out.below hb6 (Blk.lt HK.out))
  have HD := Lib.hid (HD.out.below hb6 (Blk.lt HD.out))
  clear hb6
  go_wp2_with fail
  refine (rscanT _ _).mono ?_
  rintro e w7 ⟨vu, rfl, tu, hb7⟩
  have HB7 := Lib.hid (HB6.out.trans (hb7.mono HB6.out.size))
  have HM7 := Lib.hid (HM6.out.below hb7)
  have HTS := Lib.hid (HTS.out.below hb7)
  have HK := Lib.hid (HK.out.below hb7 (Blk.lt HK.out))
  have HD := Lib.hid (HD.out.below hb7 (Blk.lt HD.out))
  have HTU := Lib.hid tu
  clear hb7 tu
  go_wp2_with fail
  refine (cmdT _ _ HDB.out vu m _ HM7.out HTU.out).mono ?_
  rintro e w8 ⟨rfl, hb8⟩
  have HB8 := Lib.hid (HB7.out.trans (hb8.mono HB7.out.size))
  have HM8 := Lib.hid (HM7.out.below hb8)
  have HTS := Lib.hid (HTS.out.below hb8)
  have HTU := Lib.hid (HTU.out.below hb8)
  have HK := Lib.hid (HK.out.below hb8 (Blk.lt HK.out))
  have HD := Lib.hid (HD.out.below hb8 (Blk.lt HD.out))
  clear hb8
  have y := fun o => cm_results _ (HD.out.alloc o)
  have y0 := fun o => (y o).1
  have y1 := fun o => (y o).2.1
  have y2 := fun o => (y o).2.2.1
  have y3 := fun o => (y o).2.2.2.1
  have y4 := fun o => (y o).2.2.2.2
  clear y
  go_wp2_with fail
  obtain ⟨W3, hW3⟩ : ∃ W3, w8.alloc (.cells #[.int .i64 d0, .string d1, .int .i64 d2, .int .i64 d3, .bool d4] 24) = W3 := ⟨_, rfl⟩
  have hb9 : Below w8.heap.size w8 W3 := by rw [← hW3]; exact (Below.refl _ _).alloc (Nat.le_refl _) _
  have HB9 := Lib.hid (HB8.out.trans (hb9.mono HB8.out.size))
  have HM9 := Lib.hid (HM8.out.below hb9)
  have HTS := Lib.hid (HTS.out.below hb9)
  have HTU := Lib.hid (HTU.out.below hb9)
  have HK := Lib.hid (HK.out.below hb9 (Blk.lt HK.out))
  have HD := Lib.hid (HD.out.below hb9 (Blk.lt HD.out))
  rw [hW3]
  clear hW3
  clear hb9
  refine (known8_any m _ HM9.out).mono ?_
  rintro e w10 ⟨rfl, hb10⟩
  have HB10 := Lib.hid (HB9.out.trans (hb10.mono HB9.out.size))
  have HM10 := Lib.hid (HM9.out.below hb10)
  have HTS := Lib.hid (HTS.out.below hb10)
  have HTU := Lib.hid (HTU.out.below hb10)
  have HK := Lib.hid (HK.out.below hb10 (Blk.lt HK.out))
  have HD := Lib.hid (HD.out.below hb10 (Blk.lt HD.out))
  clear hb10
  go_wp2
  go_ret
  exact ⟨rfl, HB10.out⟩
set_option maxHeartbeats 8000000 in
theorem back_en (c : Cm) (s : ByteArray) (m : Int) (w : World) (hm : Wq m w) (hn : c.2.1.size ≤ 200) (hs : s.size ≤ 1000) (hK : i64B c.2.2.1) (hV : i64B c.2.2.2.1) (hT : textC c = []) (hF : (cmdA (scanA s).1).2 = false) :
    Calls Tryz.prog 6 #[cmV c, .string s] w fun e w' => e = .returned (.bool true) ∧ Below w.heap.size w w' := by
  have HM0 := Lib.hid hm
  have HB0 := Lib.hid (Below.refl w.heap.size w)
  have HTX := Lib.hid (fun W hW => text_any c m W hW (Nat.le_trans hn (by decide)) hK hV)
  have l1 : ¬ ((200 : Int) < (c.2.1.size : Int)) := by omega
  have l2 : ¬ ((1000 : Int) < (s.size : Int)) := by omega
  obtain ⟨R, hR⟩ : ∃ R, cmdA (scanA s).1 = R := ⟨_, rfl⟩
  have HR := Lib.hid hR
  rw [hR] at hF
  obtain ⟨c0, c1, c2, c3, c4⟩ := c
  simp only at l1
  rw [hT] at HTX
  have HTX : Hid (∀ W, Wq m W → Calls Tryz.prog 12 #[cmV (c0, c1, c2, c3, c4)] W fun e w' => e = .returned (.string ⟨#[]⟩) ∧ Below W.heap.size W w') := HTX
  have hz := cmdF_zero formsC (scanA s).1 (show (cmdA (scanA s).1).2 = false by rw [hR]; exact hF)
  have h1 : R.1 = cmdZ := by rw [← hR]; exact hz
  have hR2 : cmdA (scanA s).1 = (cmdZ, false) := by rw [hR, ← h1, ← hF]
  clear h1
  have HR := Lib.hid hR2
  clear hz hR2
  clear hm hn hs hK hV hR hT hF
  go_enter Tryz.func6, Tryz.ntmps6
  go_wp2_with fail
  obtain ⟨W0, hW0⟩ : ∃ W0, w.alloc (.cells #[.int .i64 c0, .string c1, .int .i64 c2, .int .i64 c3, .bool c4] 24) = W0 := ⟨_, rfl⟩
  have hb1 : Below w.heap.size w W0 := by rw [← hW0]; exact (Below.refl _ _).alloc (Nat.le_refl _) _
  have HB1 := Lib.hid (HB0.out.trans (hb1.mono HB0.out.size))
  have HM1 := Lib.hid (HM0.out.below hb1)
  have hk0 : Blk W0 w.heap.size 24 (cmCells (c0, c1, c2, c3, c4)) := by rw [← hW0]; exact Blk.new _ _ _
  have HK := Lib.hid hk0
  rw [hW0]
  clear hW0 hk0
  clear hb1
  refine (HTX.out _ HM1.out).mono ?_
  rintro e w2 ⟨rfl, hb2⟩
  have HB2 := Lib.hid (HB1.out.trans (hb2.mono HB1.out.size))
  have HM2 := Lib.hid (HM1.out.below hb2)
  have HK := Lib.hid (HK.out.below hb2 (Blk.lt HK.out))
  clear hb2
  go_wp2_with fail
  refine (rscanT s _).mono ?_
  rintro e w3 ⟨vs, rfl, ts, hb3⟩
  have HB3 := Lib.hid (HB2.out.trans (hb3.mono HB2.out.size))
  have HM3 := Lib.hid (HM2.out.below hb3)
  have HK := Lib.hid (HK.out.below hb3 (Blk.lt HK.out))
  have HTS := Lib.hid ts
  clear hb3 ts
  go_wp2_with fail
  refine (cmdTZ s HR.out vs m _ HM3.out HTS.out).mono ?_
  rintro e w4 ⟨rfl, hb4⟩
  have HB4 := Lib.hid (HB3.out.trans (hb4.mono HB3.out.size))
  have HM4 := Lib.hid (HM3.out.below hb4)
  have HTS := Lib.hid (HTS.out.below hb4)
  have HK := Lib.hid (HK.out.below hb4 (Blk.lt HK.out))
  clear hb4
  go_wp2_with fail
  obtain ⟨W2, hW2⟩ : ∃ W2, w4.alloc (.cells #[.int .i64 0, .string ⟨#[]⟩, .int .i64 0, .int .i64 0, .bool false] 24) = W2 := ⟨_, rfl⟩
  have hb5 : Below w4.heap.size w4 W2 := by rw [← hW2]; exact (Below.refl _ _).alloc (Nat.le_refl _) _
  have HB5 := Lib.hid (HB4.out.trans (hb5.mono HB4.out.size))
  have HM5 := Lib.hid (HM4.out.below hb5)
  have HTS := Lib.hid (HTS.out.below hb5)
  have HK := Lib.hid (HK.out.below hb5 (Blk.lt HK.out))
  rw [hW2]
  clear hW2
  clear hb5
  refine (known8_any m _ HM5.out).mono ?_
  rintro e w6 ⟨rfl, hb6⟩
  have HB6 := Lib.hid (HB5.out.trans (hb6.mono HB5.out.size))
  have HM6 := Lib.hid (HM5.out.below hb6)
  have HTS := Lib.hid (HTS.out.below hb6)
  have HK := Lib.hid (HK.out.below hb6 (Blk.lt HK.out))
  clear hb6
  go_wp2
  go_ret
  exact ⟨rfl, HB6.out⟩
set_option maxHeartbeats 8000000 in
theorem back_tf (c : Cm) (s : ByteArray) (m : Int) (w : World) (hm : Wq m w) (hn : c.2.1.size ≤ 200) (hs : s.size ≤ 1000) (hK : i64B c.2.2.1) (hV : i64B c.2.2.2.1) (hT : textC c ≠ []) (hF : (cmdA (scanA s).1).2 = true) :
    Calls Tryz.prog 6 #[cmV c, .string s] w fun e w' => e = .returned (.bool true) ∧ Below w.heap.size w w' := by
  have HM0 := Lib.hid hm
  have HB0 := Lib.hid (Below.refl w.heap.size w)
  have HTX := Lib.hid (fun W hW => text_any c m W hW (Nat.le_trans hn (by decide)) hK hV)
  have l1 : ¬ ((200 : Int) < (c.2.1.size : Int)) := by omega
  have l2 : ¬ ((1000 : Int) < (s.size : Int)) := by omega
  obtain ⟨R, hR⟩ : ∃ R, cmdA (scanA s).1 = R := ⟨_, rfl⟩
  have HR := Lib.hid hR
  rw [hR] at hF
  obtain ⟨c0, c1, c2, c3, c4⟩ := c
  simp only at l1
  obtain ⟨T, hTT⟩ : ∃ T, bb (textC (c0, c1, c2, c3, c4)) = T := ⟨_, rfl⟩
  have te := bb_emp _ hT
  have HCB := Lib.hid (cmd_back _ hT)
  rw [hTT] at te HTX HCB
  have qe := fun W => neq_cm (c0, c1, c2, c3, c4) (c0, c1, c2, c3, c4) W
  rw [eqC_self] at qe
  have nte : (!(T.toList.isEmpty)) = true := by rw [te]; rfl
  clear hTT te
  obtain ⟨⟨d0, d1, d2, d3, d4⟩, b⟩ := R
  have hb : b = true := hF
  subst hb
  have hdt := cmd_text _ _ hR
  have HDT := Lib.hid hdt
  have HDB := Lib.hid (cmd_back _ hdt)
  have qd := fun W => eq_cm (d0, d1, d2, d3, d4) (d0, d1, d2, d3, d4) W
  rw [eqC_self] at qd
  clear hdt
  clear hm hn hs hK hV hR hT hF
  go_enter Tryz.func6, Tryz.ntmps6
  go_wp2_with fail
  obtain ⟨W0, hW0⟩ : ∃ W0, w.alloc (.cells #[.int .i64 c0, .string c1, .int .i64 c2, .int .i64 c3, .bool c4] 24) = W0 := ⟨_, rfl⟩
  have hb1 : Below w.heap.size w W0 := by rw [← hW0]; exact (Below.refl _ _).alloc (Nat.le_refl _) _
  have HB1 := Lib.hid (HB0.out.trans (hb1.mono HB0.out.size))
  have HM1 := Lib.hid (HM0.out.below hb1)
  have hk0 : Blk W0 w.heap.size 24 (cmCells (c0, c1, c2, c3, c4)) := by rw [← hW0]; exact Blk.new _ _ _
  have HK := Lib.hid hk0
  rw [hW0]
  clear hW0 hk0
  clear hb1
  refine (HTX.out _ HM1.out).mono ?_
  rintro e w2 ⟨rfl, hb2⟩
  have HB2 := Lib.hid (HB1.out.trans (hb2.mono HB1.out.size))
  have HM2 := Lib.hid (HM1.out.below hb2)
  have HK := Lib.hid (HK.out.below hb2 (Blk.lt HK.out))
  clear hb2
  go_wp2_with fail
  refine (rscanT T _).mono ?_
  rintro e w3 ⟨vt, rfl, tt, hb3⟩
  have HB3 := Lib.hid (HB2.out.trans (hb3.mono HB2.out.size))
  have HM3 := Lib.hid (HM2.out.below hb3)
  have HK := Lib.hid (HK.out.below hb3 (Blk.lt HK.out))
  have HTT := Lib.hid tt
  clear hb3 tt
  go_wp2_with fail
  refine (cmdT T _ HCB.out vt m _ HM3.out HTT.out).mono ?_
  rintro e w4 ⟨rfl, hb4⟩
  have HB4 := Lib.hid (HB3.out.trans (hb4.mono HB3.out.size))
  have HM4 := Lib.hid (HM3.out.below hb4)
  have HTT := Lib.hid (HTT.out.below hb4)
  have HK := Lib.hid (HK.out.below hb4 (Blk.lt HK.out))
  clear hb4
  have y := fun o => cm_results _ (HK.out.alloc o)
  have y0 := fun o => (y o).1
  have y1 := fun o => (y o).2.1
  have y2 := fun o => (y o).2.2.1
  have y3 := fun o => (y o).2.2.2.1
  have y4 := fun o => (y o).2.2.2.2
  clear y
  go_wp2_with fail
  obtain ⟨W1, hW1⟩ : ∃ W1, w4.alloc (.cells #[.int .i64 c0, .string c1, .int .i64 c2, .int .i64 c3, .bool c4] 24) = W1 := ⟨_, rfl⟩
  have hb5 : Below w4.heap.size w4 W1 := by rw [← hW1]; exact (Below.refl _ _).alloc (Nat.le_refl _) _
  have HB5 := Lib.hid (HB4.out.trans (hb5.mono HB4.out.size))
  have HM5 := Lib.hid (HM4.out.below hb5)
  have HTT := Lib.hid (HTT.out.below hb5)
  have HK := Lib.hid (HK.out.below hb5 (Blk.lt HK.out))
  rw [hW1]
  clear hW1 y0 y1 y2 y3 y4
  clear hb5
  refine (rscanT s _).mono ?_
  rintro e w6 ⟨vs, rfl, ts, hb6⟩
  have HB6 := Lib.hid (HB5.out.trans (hb6.mono HB5.out.size))
  have HM6 := Lib.hid (HM5.out.below hb6)
  have HTT := Lib.hid (HTT.out.below hb6)
  have HK := Lib.hid (HK.out.below hb6 (Blk.lt HK.out))
  have HTS := Lib.hid ts
  clear hb6 ts
  go_wp2_with fail
  refine (cmdT s _ HR.out vs m _ HM6.out HTS.out).mono ?_
  rintro e w7 ⟨rfl, hb7⟩
  have HB7 := Lib.hid (HB6.out.trans (hb7.mono HB6.out.size))
  have HM7 := Lib.hid (HM6.out.below hb7)
  have HTT := Lib.hid (HTT.out.below hb7)
  have HTS := Lib.hid (HTS.out.below hb7)
  have HK := Lib.hid (HK.out.below hb7 (Blk.lt HK.out))
  clear hb7
  go_wp2_with fail
  obtain ⟨W2, hW2⟩ : ∃ W2, w7.alloc (.cells #[.int .i64 d0, .string d1, .int .i64 d2, .int .i64 d3, .bool d4] 24) = W2 := ⟨_, rfl⟩
  have hb8 : Below w7.heap.size w7 W2 := by rw [← hW2]; exact (Below.refl _ _).alloc (Nat.le_refl _) _
  have HB8 := Lib.hid (HB7.out.trans (hb8.mono HB7.out.size))
  have HM8 := Lib.hid (HM7.out.below hb8)
  have HTT := Lib.hid (HTT.out.below hb8)
  have HTS := Lib.hid (HTS.out.below hb8)
  have HK := Lib.hid (HK.out.below hb8 (Blk.lt HK.out))
  have hk2 : Blk W2 w7.heap.size 24 (cmCells (d0, d1, d2, d3, d4)) := by rw [← hW2]; exact Blk.new _ _ _
  have HD := Lib.hid hk2
  rw [hW2]
  obtain ⟨G, hG⟩ : ∃ G, w7.heap.size = G := ⟨_, rfl⟩
  rw [hG] at HD ⊢
  clear hW2 hk2 hG
  clear hb8
  refine (textT _ HDT.out m _ HM8.out).mono ?_
  rintro e w9 ⟨rfl, hb9⟩
  have HB9 := Lib.hid (HB8.out.trans (hb9.mono HB8.out.size))
  have HM9 := Lib.hid (HM8.out.below hb9)
  have HTT := Lib.hid (HTT.out.below hb9)
  have HTS := Lib.hid (HTS.out.below hb9)
  have HK := Lib.hid (HK.out.below hb9 (Blk.lt HK.out))
  have HD := Lib.hid (HD.out.below hb9 (Blk.lt HD.out))
  clear hb9
  go_wp2_with fail
  refine (rscanT _ _).mono ?_
  rintro e w10 ⟨vu, rfl, tu, hb10⟩
  have HB10 := Lib.hid (HB9.out.trans (hb10.mono HB9.out.size))
  have HM10 := Lib.hid (HM9.out.below hb10)
  have HTT := Lib.hid (HTT.out.below hb10)
  have HTS := Lib.hid (HTS.out.below hb10)
  have HK := Lib.hid (HK.out.below hb10 (Blk.lt HK.out))
  have HD := Lib.hid (HD.out.below hb10 (Blk.lt HD.out))
  have HTU := Lib.hid tu
  clear hb10 tu
  go_wp2_with fail
  refine (cmdT _ _ HDB.out vu m _ HM10.out HTU.out).mono ?_
  rintro e w11 ⟨rfl, hb11⟩
  have HB11 := Lib.hid (HB10.out.trans (hb11.mono HB10.out.size))
  have HM11 := Lib.hid (HM10.out.below hb11)
  have HTT := Lib.hid (HTT.out.below hb11)
  have HTS := Lib.hid (HTS.out.below hb11)
  have HTU := Lib.hid (HTU.out.below hb11)
  have HK := Lib.hid (HK.out.below hb11 (Blk.lt HK.out))
  have HD := Lib.hid (HD.out.below hb11 (Blk.lt HD.out))
  clear hb11
  have y := fun o => cm_results _ (HD.out.alloc o)
  have y0 := fun o => (y o).1
  have y1 := fun o => (y o).2.1
  have y2 := fun o => (y o).2.2.1
  have y3 := fun o => (y o).2.2.2.1
  have y4 := fun o => (y o).2.2.2.2
  clear y
  go_wp2_with fail
  obtain ⟨W3, hW3⟩ : ∃ W3, w11.alloc (.cells #[.int .i64 d0, .string d1, .int .i64 d2, .int .i64 d3, .bool d4] 24) = W3 := ⟨_, rfl⟩
  have hb12 : Below w11.heap.size w11 W3 := by rw [← hW3]; exact (Below.refl _ _).alloc (Nat.le_refl _) _
  have HB12 := Lib.hid (HB11.out.trans (hb12.mono HB11.out.size))
  have HM12 := Lib.hid (HM11.out.below hb12)
  have HTT := Lib.hid (HTT.out.below hb12)
  have HTS := Lib.hid (HTS.out.below hb12)
  have HTU := Lib.hid (HTU.out.below hb12)
  have HK := Lib.hid (HK.out.below hb12 (Blk.lt HK.out))
  have HD := Lib.hid (HD.out.below hb12 (Blk.lt HD.out))
  rw [hW3]
  clear hW3
  clear hb12
  refine (known8_any m _ HM12.out).mono ?_
  rintro e w13 ⟨rfl, hb13⟩
  have HB13 := Lib.hid (HB12.out.trans (hb13.mono HB12.out.size))
  have HM13 := Lib.hid (HM12.out.below hb13)
  have HTT := Lib.hid (HTT.out.below hb13)
  have HTS := Lib.hid (HTS.out.below hb13)
  have HTU := Lib.hid (HTU.out.below hb13)
  have HK := Lib.hid (HK.out.below hb13 (Blk.lt HK.out))
  have HD := Lib.hid (HD.out.below hb13 (Blk.lt HD.out))
  clear hb13
  go_wp2
  go_ret
  exact ⟨rfl, HB13.out⟩
set_option maxHeartbeats 8000000 in
theorem back_tn (c : Cm) (s : ByteArray) (m : Int) (w : World) (hm : Wq m w) (hn : c.2.1.size ≤ 200) (hs : s.size ≤ 1000) (hK : i64B c.2.2.1) (hV : i64B c.2.2.2.1) (hT : textC c ≠ []) (hF : (cmdA (scanA s).1).2 = false) :
    Calls Tryz.prog 6 #[cmV c, .string s] w fun e w' => e = .returned (.bool true) ∧ Below w.heap.size w w' := by
  have HM0 := Lib.hid hm
  have HB0 := Lib.hid (Below.refl w.heap.size w)
  have HTX := Lib.hid (fun W hW => text_any c m W hW (Nat.le_trans hn (by decide)) hK hV)
  have l1 : ¬ ((200 : Int) < (c.2.1.size : Int)) := by omega
  have l2 : ¬ ((1000 : Int) < (s.size : Int)) := by omega
  obtain ⟨R, hR⟩ : ∃ R, cmdA (scanA s).1 = R := ⟨_, rfl⟩
  have HR := Lib.hid hR
  rw [hR] at hF
  obtain ⟨c0, c1, c2, c3, c4⟩ := c
  simp only at l1
  obtain ⟨T, hTT⟩ : ∃ T, bb (textC (c0, c1, c2, c3, c4)) = T := ⟨_, rfl⟩
  have te := bb_emp _ hT
  have HCB := Lib.hid (cmd_back _ hT)
  rw [hTT] at te HTX HCB
  have qe := fun W => neq_cm (c0, c1, c2, c3, c4) (c0, c1, c2, c3, c4) W
  rw [eqC_self] at qe
  have nte : (!(T.toList.isEmpty)) = true := by rw [te]; rfl
  clear hTT te
  have hz := cmdF_zero formsC (scanA s).1 (show (cmdA (scanA s).1).2 = false by rw [hR]; exact hF)
  have h1 : R.1 = cmdZ := by rw [← hR]; exact hz
  have hR2 : cmdA (scanA s).1 = (cmdZ, false) := by rw [hR, ← h1, ← hF]
  clear h1
  have HR := Lib.hid hR2
  clear hz hR2
  clear hm hn hs hK hV hR hT hF
  go_enter Tryz.func6, Tryz.ntmps6
  go_wp2_with fail
  obtain ⟨W0, hW0⟩ : ∃ W0, w.alloc (.cells #[.int .i64 c0, .string c1, .int .i64 c2, .int .i64 c3, .bool c4] 24) = W0 := ⟨_, rfl⟩
  have hb1 : Below w.heap.size w W0 := by rw [← hW0]; exact (Below.refl _ _).alloc (Nat.le_refl _) _
  have HB1 := Lib.hid (HB0.out.trans (hb1.mono HB0.out.size))
  have HM1 := Lib.hid (HM0.out.below hb1)
  have hk0 : Blk W0 w.heap.size 24 (cmCells (c0, c1, c2, c3, c4)) := by rw [← hW0]; exact Blk.new _ _ _
  have HK := Lib.hid hk0
  rw [hW0]
  clear hW0 hk0
  clear hb1
  refine (HTX.out _ HM1.out).mono ?_
  rintro e w2 ⟨rfl, hb2⟩
  have HB2 := Lib.hid (HB1.out.trans (hb2.mono HB1.out.size))
  have HM2 := Lib.hid (HM1.out.below hb2)
  have HK := Lib.hid (HK.out.below hb2 (Blk.lt HK.out))
  clear hb2
  go_wp2_with fail
  refine (rscanT T _).mono ?_
  rintro e w3 ⟨vt, rfl, tt, hb3⟩
  have HB3 := Lib.hid (HB2.out.trans (hb3.mono HB2.out.size))
  have HM3 := Lib.hid (HM2.out.below hb3)
  have HK := Lib.hid (HK.out.below hb3 (Blk.lt HK.out))
  have HTT := Lib.hid tt
  clear hb3 tt
  go_wp2_with fail
  refine (cmdT T _ HCB.out vt m _ HM3.out HTT.out).mono ?_
  rintro e w4 ⟨rfl, hb4⟩
  have HB4 := Lib.hid (HB3.out.trans (hb4.mono HB3.out.size))
  have HM4 := Lib.hid (HM3.out.below hb4)
  have HTT := Lib.hid (HTT.out.below hb4)
  have HK := Lib.hid (HK.out.below hb4 (Blk.lt HK.out))
  clear hb4
  have y := fun o => cm_results _ (HK.out.alloc o)
  have y0 := fun o => (y o).1
  have y1 := fun o => (y o).2.1
  have y2 := fun o => (y o).2.2.1
  have y3 := fun o => (y o).2.2.2.1
  have y4 := fun o => (y o).2.2.2.2
  clear y
  go_wp2_with fail
  obtain ⟨W1, hW1⟩ : ∃ W1, w4.alloc (.cells #[.int .i64 c0, .string c1, .int .i64 c2, .int .i64 c3, .bool c4] 24) = W1 := ⟨_, rfl⟩
  have hb5 : Below w4.heap.size w4 W1 := by rw [← hW1]; exact (Below.refl _ _).alloc (Nat.le_refl _) _
  have HB5 := Lib.hid (HB4.out.trans (hb5.mono HB4.out.size))
  have HM5 := Lib.hid (HM4.out.below hb5)
  have HTT := Lib.hid (HTT.out.below hb5)
  have HK := Lib.hid (HK.out.below hb5 (Blk.lt HK.out))
  rw [hW1]
  clear hW1 y0 y1 y2 y3 y4
  clear hb5
  refine (rscanT s _).mono ?_
  rintro e w6 ⟨vs, rfl, ts, hb6⟩
  have HB6 := Lib.hid (HB5.out.trans (hb6.mono HB5.out.size))
  have HM6 := Lib.hid (HM5.out.below hb6)
  have HTT := Lib.hid (HTT.out.below hb6)
  have HK := Lib.hid (HK.out.below hb6 (Blk.lt HK.out))
  have HTS := Lib.hid ts
  clear hb6 ts
  go_wp2_with fail
  refine (cmdTZ s HR.out vs m _ HM6.out HTS.out).mono ?_
  rintro e w7 ⟨rfl, hb7⟩
  have HB7 := Lib.hid (HB6.out.trans (hb7.mono HB6.out.size))
  have HM7 := Lib.hid (HM6.out.below hb7)
  have HTT := Lib.hid (HTT.out.below hb7)
  have HTS := Lib.hid (HTS.out.below hb7)
  have HK := Lib.hid (HK.out.below hb7 (Blk.lt HK.out))
  clear hb7
  go_wp2_with fail
  obtain ⟨W2, hW2⟩ : ∃ W2, w7.alloc (.cells #[.int .i64 0, .string ⟨#[]⟩, .int .i64 0, .int .i64 0, .bool false] 24) = W2 := ⟨_, rfl⟩
  have hb8 : Below w7.heap.size w7 W2 := by rw [← hW2]; exact (Below.refl _ _).alloc (Nat.le_refl _) _
  have HB8 := Lib.hid (HB7.out.trans (hb8.mono HB7.out.size))
  have HM8 := Lib.hid (HM7.out.below hb8)
  have HTT := Lib.hid (HTT.out.below hb8)
  have HTS := Lib.hid (HTS.out.below hb8)
  have HK := Lib.hid (HK.out.below hb8 (Blk.lt HK.out))
  rw [hW2]
  clear hW2
  clear hb8
  refine (known8_any m _ HM8.out).mono ?_
  rintro e w9 ⟨rfl, hb9⟩
  have HB9 := Lib.hid (HB8.out.trans (hb9.mono HB8.out.size))
  have HM9 := Lib.hid (HM8.out.below hb9)
  have HTT := Lib.hid (HTT.out.below hb9)
  have HTS := Lib.hid (HTS.out.below hb9)
  have HK := Lib.hid (HK.out.below hb9 (Blk.lt HK.out))
  clear hb9
  go_wp2
  go_ret
  exact ⟨rfl, HB9.out⟩
set_option maxHeartbeats 4000000 in
theorem back_big (c : Cm) (s : ByteArray) (m : Int) (w : World) (hm : Wq m w) (h : 200 < c.2.1.size ∨ 1000 < s.size) :
    Calls Tryz.prog 6 #[cmV c, .string s] w fun e w' => e = .returned (.bool true) ∧ Below w.heap.size w w' := by
  obtain ⟨c0, c1, c2, c3, c4⟩ := c
  simp only at h
  have hb := (Below.refl w.heap.size w).alloc (Nat.le_refl _) (.cells #[.int .i64 c0, .string c1, .int .i64 c2, .int .i64 c3, .bool c4] 24)
  have HB := Lib.hid hb
  have HK := Lib.hid (known8_any m _ (hm.below hb))
  clear hm hb
  by_cases h1 : 200 < c1.size
  · have l1 : (200 : Int) < (c1.size : Int) := by omega
    clear h
    go_enter Tryz.func6, Tryz.ntmps6
    go_wp2_with (go_at_call 9; (refine HK.out.mono ?_); rintro e w2 ⟨rfl, hb2⟩; have HB2 := Lib.hid (HB.out.trans (hb2.mono HB.out.size)); clear hb2)
    go_ret
    exact ⟨rfl, HB2.out⟩
  · have l1 : ¬ ((200 : Int) < (c1.size : Int)) := by omega
    have l2 : (1000 : Int) < (s.size : Int) := by omega
    clear h
    go_enter Tryz.func6, Tryz.ntmps6
    go_wp2_with (go_at_call 9; (refine HK.out.mono ?_); rintro e w2 ⟨rfl, hb2⟩; have HB2 := Lib.hid (HB.out.trans (hb2.mono HB.out.size)); clear hb2)
    go_ret
    exact ⟨rfl, HB2.out⟩
theorem back_any (v : Value) (s : ByteArray) (m : Int) (w : World) (hm : Wq m w) (hf : FitsC w v) :
    Calls Tryz.prog 6 #[v, .string s] w fun e w' => e = .returned (.bool true) ∧ Below w.heap.size w w' := by
  obtain ⟨kd, n, K, V, kb, rfl, h0, h1, h2, h3⟩ := hf
  by_cases hn : n.size ≤ 200
  · by_cases hs : s.size ≤ 1000
    · by_cases hT : textC (kd, n, K, V, kb) = []
      · cases hF : (cmdA (scanA s).1).2 with
        | true => exact back_ef (kd, n, K, V, kb) s m w hm hn hs h1 h2 hT hF
        | false => exact back_en (kd, n, K, V, kb) s m w hm hn hs h1 h2 hT hF
      · cases hF : (cmdA (scanA s).1).2 with
        | true => exact back_tf (kd, n, K, V, kb) s m w hm hn hs h1 h2 hT hF
        | false => exact back_tn (kd, n, K, V, kb) s m w hm hn hs h1 h2 hT hF
    · exact back_big (kd, n, K, V, kb) s m w hm (.inr (by omega))
  · exact back_big (kd, n, K, V, kb) s m w hm (.inl (by show 200 < n.size; omega))
end Go.Proofs.YtjloookjlnmgdaaGreatDoor
namespace Go.Proofs.YtjloookjlnmgdaaGreatDoor
open Go.ChangeShapes Go.WideShapes Go.ChangeAt Go.RowKit
set_option maxRecDepth 100000
set_option linter.unusedVariables false
set_option linter.unusedSimpArgs false

theorem go_iff {q : Nat → Bool} {f : Nat → Nat → Bool} (h0 : ∀ i, f 0 i = true) (h1 : ∀ n i, f (n + 1) i = (q i && f n (i + 1))) : ∀ n i, f n i = true ↔ ∀ j, i ≤ j → j < i + n → q j = true
  | 0, i => by
    constructor
    · intro _ j h2 h3; omega
    · intro _; exact h0 i
  | n + 1, i => by
    rw [h1, Bool.and_eq_true, go_iff h0 h1 n (i + 1)]
    constructor
    · rintro ⟨a, b⟩ j h2 h3
      rcases Nat.lt_or_ge i j with h | h
      · exact b j (by omega) (by omega)
      · have : j = i := by omega
        subst this; exact a
    · intro h
      exact ⟨h i (Nat.le_refl _) (by omega), fun j h2 h3 => h j (by omega) (by omega)⟩
theorem inN_iff (n : Int) : inN n = true ↔ inI n := by unfold inN inI; exact decide_eq_true_iff
theorem rows_iff (l : List Rw) : rowsOk l = true ↔ RowsP l := by
  unfold rowsOk
  rw [Bool.and_eq_true, decide_eq_true_iff, go_iff (f := rowsGo l) (q := rowAt l) (fun _ => rfl) (fun _ _ => rfl)]
  constructor
  · rintro ⟨h1, h2⟩
    refine ⟨h1, ?_, fun r hr => ?_⟩
    · refine up_step (R := fun a b : Rw => a.1 < b.1) (fun a b c h3 h4 => Int.lt_trans h3 h4) fun i a b ha hb => ?_
      have hl := (List.getElem?_eq_some_iff.1 hb).1
      have := h2 (i + 1) (Nat.zero_le _) (by omega)
      unfold rowAt at this
      rw [hb] at this
      simp only [Nat.add_sub_cancel, ha, Bool.and_eq_true, Bool.or_eq_true, beq_iff_eq, decide_eq_true_eq] at this
      rcases this.1 with h | h
      · omega
      · exact h
    · obtain ⟨i, hi⟩ := List.getElem?_of_mem hr
      have hl := (List.getElem?_eq_some_iff.1 hi).1
      have := h2 i (Nat.zero_le _) (by omega)
      unfold rowAt at this
      rw [hi] at this
      simp only [Bool.and_eq_true] at this
      exact ⟨(inN_iff _).1 this.2.1, (inN_iff _).1 this.2.2⟩
  · intro h
    refine ⟨h.len, fun j _ hj => ?_⟩
    unfold rowAt
    rw [List.getElem?_eq_getElem (by omega)]
    have hi := h.ins _ (List.getElem_mem (by omega : j < l.length))
    simp only [Bool.and_eq_true, Bool.or_eq_true, beq_iff_eq]
    refine ⟨?_, (inN_iff _).2 hi.1, (inN_iff _).2 hi.2⟩
    by_cases h0 : j = 0
    · exact .inl h0
    · right
      rw [List.getElem?_eq_getElem (by omega : j - 1 < l.length)]
      exact decide_eq_true (h.up (j - 1) j _ _ (by omega) (List.getElem?_eq_getElem (by omega)) (List.getElem?_eq_getElem (by omega)))
theorem right_iff (s : List Tb) : rightL s = true ↔ StateP s := by
  unfold rightL
  rw [Bool.and_eq_true, decide_eq_true_iff, go_iff (f := tabsGo s) (q := tabAt s) (fun _ => rfl) (fun _ _ => rfl)]
  constructor
  · rintro ⟨h1, h2⟩
    refine ⟨h1, ?_, fun t ht => ?_⟩
    · refine up_step (R := fun a b : Tb => a.1.data.toList < b.1.data.toList) (fun a b c h3 h4 => List.lt_trans h3 h4) fun i a b ha hb => ?_
      have hl := (List.getElem?_eq_some_iff.1 hb).1
      have := h2 (i + 1) (Nat.zero_le _) (by omega)
      unfold tabAt at this
      rw [hb] at this
      simp only [Nat.add_sub_cancel, ha, Bool.and_eq_true, Bool.or_eq_true, beq_iff_eq, decide_eq_true_eq, Lib.toList_data] at this
      rcases this.1 with h | h
      · omega
      · exact h
    · obtain ⟨i, hi⟩ := List.getElem?_of_mem ht
      have hl := (List.getElem?_eq_some_iff.1 hi).1
      have := h2 i (Nat.zero_le _) (by omega)
      unfold tabAt at this
      rw [hi] at this
      simp only [Bool.and_eq_true, decide_eq_true_eq] at this
      exact ⟨by have := this.2.1; omega, this.2.2.1, (rows_iff _).1 this.2.2.2⟩
  · intro h
    refine ⟨h.len, fun j _ hj => ?_⟩
    unfold tabAt
    rw [List.getElem?_eq_getElem (by omega)]
    have hi := h.each _ (List.getElem_mem (by omega : j < s.length))
    simp only [Bool.and_eq_true, Bool.or_eq_true, beq_iff_eq, decide_eq_true_eq]
    refine ⟨?_, by have := hi.1; omega, hi.2.1, (rows_iff _).2 hi.2.2⟩
    by_cases h0 : j = 0
    · exact .inl h0
    · right
      rw [List.getElem?_eq_getElem (by omega : j - 1 < s.length)]
      simp only [decide_eq_true_eq, Lib.toList_data]
      exact h.up (j - 1) j _ _ (by omega) (List.getElem?_eq_getElem (by omega)) (List.getElem?_eq_getElem (by omega))
theorem self_emp : selfB ⟨#[]⟩ = false := by kernel_rfl
theorem txt_facts {kd : Int} {n : ByteArray} {K V : Int} {kb : Bool} (h : textC (kd, n, K, V, kb) ≠ []) : (1 ≤ kd ∧ kd ≤ 5) ∧ (0 < n.size ∧ n.size ≤ 30) ∧ inI K ∧ inI V ∧ nameB n = true ∧ ((kd = 2 ∨ kd = 3) → kb = true) := by
  obtain ⟨q, hq, h1, h2, hok, _⟩ := text_some _ h
  obtain ⟨⟨p1, p2, p3⟩, _⟩ := ok_parts _ hok
  simp only at h1 h2 p1 p2 p3
  have hn := p1
  unfold nameB at hn
  simp only [Bool.and_eq_true, decide_eq_true_eq] at hn
  refine ⟨?_, ⟨?_, hn.1.1.1⟩, (inN_iff _).1 p2, (inN_iff _).1 p3, p1, ?_⟩
  · simp only [formsP, List.mem_cons, List.not_mem_nil, or_false] at hq
    rcases hq with rfl | rfl | rfl | rfl | rfl | rfl | rfl <;> simp only at h1 <;> omega
  · rcases Nat.eq_zero_or_pos n.size with h0 | h0
    · have : n = ⟨#[]⟩ := is_empty n h0
      rw [this, self_emp] at hn
      exact absurd hn.1.1.2 (by decide)
    · exact h0
  · simp only [formsP, List.mem_cons, List.not_mem_nil, or_false] at hq
    rcases hq with rfl | rfl | rfl | rfl | rfl | rfl | rfl <;> simp only at h1 h2 <;> (intro h3; first | exact h2 | omega)
end Go.Proofs.YtjloookjlnmgdaaGreatDoor
namespace Go.Proofs.YtjloookjlnmgdaaGreatDoor
open Go.ChangeShapes Go.WideShapes Go.ChangeAt Go.RowKit
set_option maxRecDepth 100000
set_option linter.unusedVariables false
set_option linter.unusedSimpArgs false

def lightT (t : Tb) : Bool := decide (t.1.size ≤ 60) && decide (t.2.length ≤ 70)
def lightS (s : List Tb) : Bool := decide (s.length ≤ 20) && s.all lightT
set_option maxHeartbeats 2000000 in
theorem light8_any (v : Value) (s : List Tb) (w : World) (h : SR w v s) :
    Calls Tryz.prog 14 #[v] w fun e w' => e = .returned (.bool (lightS s)) ∧ ∃ n, w' = w.drewN n := by
  obtain ⟨R, hR⟩ : ∃ R, lightS s = R := ⟨_, rfl⟩
  rw [hR]
  obtain ⟨a, cap, rfl⟩ := h.form
  have HH := Lib.hid h
  by_cases h20 : s.length ≤ 20
  · have hg : (s.drop 0).all lightT = R := by rw [← hR, List.drop_zero]; unfold lightS; rw [decide_eq_true h20, Bool.true_and]
    have l20 : ¬ ((20 : Int) < (s.length : Int)) := by omega
    have HG := Lib.hid hg
    have H20 := Lib.hid h20
    clear h hR hg
    go_enter Tryz.func14, Tryz.ntmps14
    go_wp2
    go_loopg [3] s.length (fun gk u3 wx => ∃ i : Nat, u3 = .int .i64 (i : Int) ∧ i + gk = s.length ∧ (∃ n, wx = w.drewN n) ∧ (s.drop i).all lightT = R)
    case atStart => exact ⟨0, rfl, by omega, ⟨0, rfl⟩, HG.out⟩
    case round =>
      obtain ⟨i, rfl, hi, ⟨n0, rfl⟩, hr⟩ := hrel
      have HI := Lib.hid hi
      cases gk with
      | zero =>
        have l1 : ¬ ((i : Int) < (s.length : Int)) := by omega
        have hR : R = true := by rw [← hr, List.drop_of_length_le (by omega)]; rfl
        subst hR
        clear hi hr
        go_wp2
        go_ret
        exact ⟨rfl, _, rfl⟩
      | succ gk =>
        have hlt : i < s.length := by omega
        obtain ⟨b, o, cp, he, hcp, hx⟩ := HH.out.inv (by omega)
        injection he with ea _ ec
        subst ea ec
        obtain ⟨t, ht0⟩ : ∃ t, s[i] = t := ⟨_, rfl⟩
        obtain ⟨x0, u, x1, hu⟩ := hx i t (by rw [List.getElem?_eq_getElem hlt, ht0])
        obtain ⟨ua, uc, rfl⟩ := hu.form
        have l0 : (0 : Int) ≤ (i : Int) := by omega
        have l1 : (i : Int) < (s.length : Int) := by omega
        obtain ⟨i1, hi1⟩ : ∃ i1, i + 1 = i1 := ⟨_, rfl⟩
        have wk : IntKind.i64.wrap ((i : Int) + 1) = (i1 : Int) := by rw [show (i : Int) + 1 = (i1 : Int) by omega]; exact IntWalk.i64_in _ (by have := H20.out; omega)
        have HI1 := Lib.hid hi1
        rw [List.drop_eq_getElem_cons hlt, ht0, List.all_cons, hi1] at hr
        obtain ⟨n, rs⟩ := t
        unfold lightT at hr
        simp only at hr x0 hu
        by_cases hn : n.size ≤ 60
        · have ln : ¬ ((60 : Int) < (n.size : Int)) := by omega
          rw [decide_eq_true hn, Bool.true_and] at hr
          by_cases hl : rs.length ≤ 70
          · have ll : ¬ ((70 : Int) < (rs.length : Int)) := by omega
            rw [decide_eq_true hl, Bool.true_and] at hr
            have HR2 := Lib.hid hr
            clear hi hr hx ht0 hi1 hlt hu hn hl
            go_wp2
            go_roundg gk
            case measure => exact Nat.lt_succ_self _
            case rel => exact ⟨i1, rfl, by have := HI1.out; have := HI.out; omega, ⟨_, rfl⟩, HR2.out⟩
          · have ll : (70 : Int) < (rs.length : Int) := by omega
            rw [decide_eq_false hl, Bool.false_and] at hr
            have HR2 := Lib.hid hr.symm
            have hR2 : R = false := hr.symm
            subst hR2
            clear hi hr hx ht0 hi1 hlt hu hn hl
            go_wp2
            go_ret
            exact ⟨rfl, _, rfl⟩
        · have ln : (60 : Int) < (n.size : Int) := by omega
          rw [decide_eq_false hn, Bool.false_and, Bool.false_and] at hr
          have hR2 : R = false := hr.symm
          subst hR2
          clear hi hr hx ht0 hi1 hlt hu hn
          go_wp2
          go_ret
          exact ⟨rfl, _, rfl⟩
  · have l20 : (20 : Int) < (s.length : Int) := by omega
    have hR2 : R = false := by rw [← hR]; unfold lightS; rw [decide_eq_false h20, Bool.false_and]
    subst hR2
    clear h hR h20
    go_enter Tryz.func14, Tryz.ntmps14
    go_wp2
    go_ret
    exact ⟨rfl, 0, rfl⟩
end Go.Proofs.YtjloookjlnmgdaaGreatDoor
namespace Go.Proofs.YtjloookjlnmgdaaGreatDoor
open Go.ChangeShapes Go.WideShapes Go.ChangeAt Go.RowKit
set_option maxRecDepth 100000
set_option linter.unusedVariables false
set_option linter.unusedSimpArgs false

theorem light8b (v : Value) (s : List Tb) (b : Bool) (hb : lightS s = b) (w : World) (h : SR w v s) :
    Calls Tryz.prog 14 #[v] w fun e w' => e = .returned (.bool b) ∧ Below w.heap.size w w' := by
  refine (light8_any v s w h).mono ?_
  rintro e w' ⟨he, n, rfl⟩
  exact ⟨by rw [he, hb], belN _ _ _⟩
theorem right8b (v : Value) (s : List Tb) (b : Bool) (hb : rightL s = b) (w : World) (h : SR w v s) :
    Calls Tryz.prog 15 #[v] w fun e w' => e = .returned (.bool b) ∧ Below w.heap.size w w' := by
  have := right_any v s w h
  rw [hb] at this
  exact this
def DoQ (D : List Tb × List Rw × Int) (w : World) (e : Ending) (w' : World) : Prop := ∃ va vr, e = .returned (.tuple #[va, vr, .int .i64 D.2.2]) ∧ SR w' va D.1 ∧ RR w' vr D.2.1 ∧ Below w.heap.size w w'
theorem doQ (D : List Tb × List Rw × Int) (v : Value) (s : List Tb) (kd : Int) (n : ByteArray) (K V : Int) (kb : Bool) (hD : doS s kd n K V kb = D) (hp : StateP s) (hk : 1 ≤ kd ∧ kd ≤ 5) (hn : n.size ≤ 30) (w : World) (h : SR w v s) :
    Calls Tryz.prog 20 #[v, .agg #[.int .i64 kd, .string n, .int .i64 K, .int .i64 V, .bool kb]] w (DoQ D w) := by
  have := do_sr v s kd n K V kb w h hp.ok hk (by omega)
  rw [hD] at this
  exact this
theorem sameQ (v1 v2 : Value) (s : List Tb) (hp : StateP s) (w : World) (h1 : SR w v1 s) (h2 : SR w v2 s) : Calls Tryz.prog 25 #[v1, v2] w fun e w' => e = .returned (.bool true) ∧ Below w.heap.size w w' := by
  have := same_any v1 v2 s s w h1 h2 hp.few
  rw [decide_eq_true rfl] at this
  exact this
set_option maxHeartbeats 8000000 in
theorem tw_light (v : Value) (s : List Tb) (kd : Int) (n : ByteArray) (K V : Int) (kb : Bool) (m : Int) (w : World) (hm : Wq m w) (h : SR w v s) (hK : i64B K) (hV : i64B V) (hl : lightS s = false) :
    Calls Tryz.prog 8 #[v, .agg #[.int .i64 kd, .string n, .int .i64 K, .int .i64 V, .bool kb]] w fun e w' => e = .returned (.bool true) ∧ Below w.heap.size w w' := by
  have HM0 := Lib.hid hm
  have HB0 := Lib.hid (Below.refl w.heap.size w)
  have HSR := Lib.hid h
  obtain ⟨va0, vc0, rfl⟩ := h.form
  clear hm h
  go_enter Tryz.func8, Tryz.ntmps8
  go_wp2_with fail
  obtain ⟨W0, hW0⟩ : ∃ W0, w.alloc (.cells #[.int .i64 kd, .string n, .int .i64 K, .int .i64 V, .bool kb] 24) = W0 := ⟨_, rfl⟩
  have hb1 : Below w.heap.size w W0 := by rw [← hW0]; exact (Below.refl _ _).alloc (Nat.le_refl _) _
  have HB1 := Lib.hid (HB0.out.trans (hb1.mono HB0.out.size))
  have HM1 := Lib.hid (HM0.out.below hb1)
  have HSR := Lib.hid (HSR.out.below hb1)
  have hk0 : Blk W0 w.heap.size 24 (cmCells (kd, n, K, V, kb)) := by rw [← hW0]; exact Blk.new _ _ _
  have HK := Lib.hid hk0
  rw [hW0]
  clear hW0 hk0
  clear hb1
  refine (light8b _ s false hl _ HSR.out).mono ?_
  rintro e w2 ⟨rfl, hb2⟩
  have HB2 := Lib.hid (HB1.out.trans (hb2.mono HB1.out.size))
  have HM2 := Lib.hid (HM1.out.below hb2)
  have HSR := Lib.hid (HSR.out.below hb2)
  have HK := Lib.hid (HK.out.below hb2 (Blk.lt HK.out))
  clear hb2
  go_wp2_with fail
  refine (known8_any m _ HM2.out).mono ?_
  rintro e w3 ⟨rfl, hb3⟩
  have HB3 := Lib.hid (HB2.out.trans (hb3.mono HB2.out.size))
  have HM3 := Lib.hid (HM2.out.below hb3)
  have HSR := Lib.hid (HSR.out.below hb3)
  have HK := Lib.hid (HK.out.below hb3 (Blk.lt HK.out))
  clear hb3
  go_wp2
  go_ret
  exact ⟨rfl, HB3.out⟩
set_option maxHeartbeats 8000000 in
theorem tw_right (v : Value) (s : List Tb) (kd : Int) (n : ByteArray) (K V : Int) (kb : Bool) (m : Int) (w : World) (hm : Wq m w) (h : SR w v s) (hK : i64B K) (hV : i64B V) (hl : lightS s = true) (hr : rightL s = false) :
    Calls Tryz.prog 8 #[v, .agg #[.int .i64 kd, .string n, .int .i64 K, .int .i64 V, .bool kb]] w fun e w' => e = .returned (.bool true) ∧ Below w.heap.size w w' := by
  have HM0 := Lib.hid hm
  have HB0 := Lib.hid (Below.refl w.heap.size w)
  have HSR := Lib.hid h
  obtain ⟨va0, vc0, rfl⟩ := h.form
  clear hm h
  go_enter Tryz.func8, Tryz.ntmps8
  go_wp2_with fail
  obtain ⟨W0, hW0⟩ : ∃ W0, w.alloc (.cells #[.int .i64 kd, .string n, .int .i64 K, .int .i64 V, .bool kb] 24) = W0 := ⟨_, rfl⟩
  have hb1 : Below w.heap.size w W0 := by rw [← hW0]; exact (Below.refl _ _).alloc (Nat.le_refl _) _
  have HB1 := Lib.hid (HB0.out.trans (hb1.mono HB0.out.size))
  have HM1 := Lib.hid (HM0.out.below hb1)
  have HSR := Lib.hid (HSR.out.below hb1)
  have hk0 : Blk W0 w.heap.size 24 (cmCells (kd, n, K, V, kb)) := by rw [← hW0]; exact Blk.new _ _ _
  have HK := Lib.hid hk0
  rw [hW0]
  clear hW0 hk0
  clear hb1
  refine (light8b _ s true hl _ HSR.out).mono ?_
  rintro e w2 ⟨rfl, hb2⟩
  have HB2 := Lib.hid (HB1.out.trans (hb2.mono HB1.out.size))
  have HM2 := Lib.hid (HM1.out.below hb2)
  have HSR := Lib.hid (HSR.out.below hb2)
  have HK := Lib.hid (HK.out.below hb2 (Blk.lt HK.out))
  clear hb2
  go_wp2_with fail
  refine (right8b _ s false hr _ HSR.out).mono ?_
  rintro e w3 ⟨rfl, hb3⟩
  have HB3 := Lib.hid (HB2.out.trans (hb3.mono HB2.out.size))
  have HM3 := Lib.hid (HM2.out.below hb3)
  have HSR := Lib.hid (HSR.out.below hb3)
  have HK := Lib.hid (HK.out.below hb3 (Blk.lt HK.out))
  clear hb3
  go_wp2_with fail
  refine (known8_any m _ HM3.out).mono ?_
  rintro e w4 ⟨rfl, hb4⟩
  have HB4 := Lib.hid (HB3.out.trans (hb4.mono HB3.out.size))
  have HM4 := Lib.hid (HM3.out.below hb4)
  have HSR := Lib.hid (HSR.out.below hb4)
  have HK := Lib.hid (HK.out.below hb4 (Blk.lt HK.out))
  clear hb4
  go_wp2
  go_ret
  exact ⟨rfl, HB4.out⟩
set_option maxHeartbeats 8000000 in
theorem tw_name (v : Value) (s : List Tb) (kd : Int) (n : ByteArray) (K V : Int) (kb : Bool) (m : Int) (w : World) (hm : Wq m w) (h : SR w v s) (hK : i64B K) (hV : i64B V) (hl : lightS s = true) (hr : rightL s = true) (hn : 30 < n.size) :
    Calls Tryz.prog 8 #[v, .agg #[.int .i64 kd, .string n, .int .i64 K, .int .i64 V, .bool kb]] w fun e w' => e = .returned (.bool true) ∧ Below w.heap.size w w' := by
  have ln : (30 : Int) < (n.size : Int) := by omega
  have HM0 := Lib.hid hm
  have HB0 := Lib.hid (Below.refl w.heap.size w)
  have HSR := Lib.hid h
  obtain ⟨va0, vc0, rfl⟩ := h.form
  clear hm h hn
  go_enter Tryz.func8, Tryz.ntmps8
  go_wp2_with fail
  obtain ⟨W0, hW0⟩ : ∃ W0, w.alloc (.cells #[.int .i64 kd, .string n, .int .i64 K, .int .i64 V, .bool kb] 24) = W0 := ⟨_, rfl⟩
  have hb1 : Below w.heap.size w W0 := by rw [← hW0]; exact (Below.refl _ _).alloc (Nat.le_refl _) _
  have HB1 := Lib.hid (HB0.out.trans (hb1.mono HB0.out.size))
  have HM1 := Lib.hid (HM0.out.below hb1)
  have HSR := Lib.hid (HSR.out.below hb1)
  have hk0 : Blk W0 w.heap.size 24 (cmCells (kd, n, K, V, kb)) := by rw [← hW0]; exact Blk.new _ _ _
  have HK := Lib.hid hk0
  rw [hW0]
  clear hW0 hk0
  clear hb1
  refine (light8b _ s true hl _ HSR.out).mono ?_
  rintro e w2 ⟨rfl, hb2⟩
  have HB2 := Lib.hid (HB1.out.trans (hb2.mono HB1.out.size))
  have HM2 := Lib.hid (HM1.out.below hb2)
  have HSR := Lib.hid (HSR.out.below hb2)
  have HK := Lib.hid (HK.out.below hb2 (Blk.lt HK.out))
  clear hb2
  go_wp2_with fail
  refine (right8b _ s true hr _ HSR.out).mono ?_
  rintro e w3 ⟨rfl, hb3⟩
  have HB3 := Lib.hid (HB2.out.trans (hb3.mono HB2.out.size))
  have HM3 := Lib.hid (HM2.out.below hb3)
  have HSR := Lib.hid (HSR.out.below hb3)
  have HK := Lib.hid (HK.out.below hb3 (Blk.lt HK.out))
  clear hb3
  obtain ⟨y0, y1, y2, y3, y4⟩ := cm_results (kd, n, K, V, kb) HK.out
  go_wp2_with fail
  refine (known8_any m _ HM3.out).mono ?_
  rintro e w4 ⟨rfl, hb4⟩
  have HB4 := Lib.hid (HB3.out.trans (hb4.mono HB3.out.size))
  have HM4 := Lib.hid (HM3.out.below hb4)
  have HSR := Lib.hid (HSR.out.below hb4)
  have HK := Lib.hid (HK.out.below hb4 (Blk.lt HK.out))
  clear hb4
  go_wp2
  go_ret
  exact ⟨rfl, HB4.out⟩
set_option maxHeartbeats 8000000 in
theorem tw_text (v : Value) (s : List Tb) (kd : Int) (n : ByteArray) (K V : Int) (kb : Bool) (m : Int) (w : World) (hm : Wq m w) (h : SR w v s) (hK : i64B K) (hV : i64B V) (hl : lightS s = true) (hr : rightL s = true) (hn : n.size ≤ 30) (hT : textC (kd, n, K, V, kb) = []) :
    Calls Tryz.prog 8 #[v, .agg #[.int .i64 kd, .string n, .int .i64 K, .int .i64 V, .bool kb]] w fun e w' => e = .returned (.bool true) ∧ Below w.heap.size w w' := by
  have ln : ¬ ((30 : Int) < (n.size : Int)) := by omega
  have HTX := Lib.hid (fun W hW => text_any (kd, n, K, V, kb) m W hW (by show n.size ≤ 1000; omega) hK hV)
  rw [hT] at HTX
  have HTX : Hid (∀ W, Wq m W → Calls Tryz.prog 12 #[cmV (kd, n, K, V, kb)] W fun e w' => e = .returned (.string ⟨#[]⟩) ∧ Below W.heap.size W w') := HTX
  have HM0 := Lib.hid hm
  have HB0 := Lib.hid (Below.refl w.heap.size w)
  have HSR := Lib.hid h
  obtain ⟨va0, vc0, rfl⟩ := h.form
  clear hm h hn hT
  go_enter Tryz.func8, Tryz.ntmps8
  go_wp2_with fail
  obtain ⟨W0, hW0⟩ : ∃ W0, w.alloc (.cells #[.int .i64 kd, .string n, .int .i64 K, .int .i64 V, .bool kb] 24) = W0 := ⟨_, rfl⟩
  have hb1 : Below w.heap.size w W0 := by rw [← hW0]; exact (Below.refl _ _).alloc (Nat.le_refl _) _
  have HB1 := Lib.hid (HB0.out.trans (hb1.mono HB0.out.size))
  have HM1 := Lib.hid (HM0.out.below hb1)
  have HSR := Lib.hid (HSR.out.below hb1)
  have hk0 : Blk W0 w.heap.size 24 (cmCells (kd, n, K, V, kb)) := by rw [← hW0]; exact Blk.new _ _ _
  have HK := Lib.hid hk0
  rw [hW0]
  clear hW0 hk0
  clear hb1
  refine (light8b _ s true hl _ HSR.out).mono ?_
  rintro e w2 ⟨rfl, hb2⟩
  have HB2 := Lib.hid (HB1.out.trans (hb2.mono HB1.out.size))
  have HM2 := Lib.hid (HM1.out.below hb2)
  have HSR := Lib.hid (HSR.out.below hb2)
  have HK := Lib.hid (HK.out.below hb2 (Blk.lt HK.out))
  clear hb2
  go_wp2_with fail
  refine (right8b _ s true hr _ HSR.out).mono ?_
  rintro e w3 ⟨rfl, hb3⟩
  have HB3 := Lib.hid (HB2.out.trans (hb3.mono HB2.out.size))
  have HM3 := Lib.hid (HM2.out.below hb3)
  have HSR := Lib.hid (HSR.out.below hb3)
  have HK := Lib.hid (HK.out.below hb3 (Blk.lt HK.out))
  clear hb3
  obtain ⟨y0, y1, y2, y3, y4⟩ := cm_results (kd, n, K, V, kb) HK.out
  go_wp2_with fail
  refine (HTX.out _ HM3.out).mono ?_
  rintro e w4 ⟨rfl, hb4⟩
  have HB4 := Lib.hid (HB3.out.trans (hb4.mono HB3.out.size))
  have HM4 := Lib.hid (HM3.out.below hb4)
  have HSR := Lib.hid (HSR.out.below hb4)
  have HK := Lib.hid (HK.out.below hb4 (Blk.lt HK.out))
  clear y0 y1 y2 y3 y4
  clear hb4
  go_wp2_with fail
  refine (known8_any m _ HM4.out).mono ?_
  rintro e w5 ⟨rfl, hb5⟩
  have HB5 := Lib.hid (HB4.out.trans (hb5.mono HB4.out.size))
  have HM5 := Lib.hid (HM4.out.below hb5)
  have HSR := Lib.hid (HSR.out.below hb5)
  have HK := Lib.hid (HK.out.below hb5 (Blk.lt HK.out))
  clear hb5
  go_wp2
  go_ret
  exact ⟨rfl, HB5.out⟩
set_option maxHeartbeats 8000000 in
theorem tw_add (v : Value) (s : List Tb) (n : ByteArray) (K V : Int) (kb : Bool) (m : Int) (w : World) (hm : Wq m w) (h : SR w v s) (hK : i64B K) (hV : i64B V) (hl : lightS s = true) (hr : rightL s = true) (hn : n.size ≤ 30) (hT : textC (3, n, K, V, kb) ≠ []) :
    Calls Tryz.prog 8 #[v, .agg #[.int .i64 3, .string n, .int .i64 K, .int .i64 V, .bool kb]] w fun e w' => e = .returned (.bool true) ∧ Below w.heap.size w w' := by
  have ln : ¬ ((30 : Int) < (n.size : Int)) := by omega
  have HTX := Lib.hid (fun W hW => text_any (3, n, K, V, kb) m W hW (by show n.size ≤ 1000; omega) hK hV)
  obtain ⟨T, hTT⟩ : ∃ T, bb (textC (3, n, K, V, kb)) = T := ⟨_, rfl⟩
  have te := bb_emp _ hT
  rw [hTT] at te HTX
  clear hTT
  have HM0 := Lib.hid hm
  have HB0 := Lib.hid (Below.refl w.heap.size w)
  have HSR := Lib.hid h
  obtain ⟨va0, vc0, rfl⟩ := h.form
  clear hm h hn hT
  go_enter Tryz.func8, Tryz.ntmps8
  go_wp2_with fail
  obtain ⟨W0, hW0⟩ : ∃ W0, w.alloc (.cells #[.int .i64 3, .string n, .int .i64 K, .int .i64 V, .bool kb] 24) = W0 := ⟨_, rfl⟩
  have hb1 : Below w.heap.size w W0 := by rw [← hW0]; exact (Below.refl _ _).alloc (Nat.le_refl _) _
  have HB1 := Lib.hid (HB0.out.trans (hb1.mono HB0.out.size))
  have HM1 := Lib.hid (HM0.out.below hb1)
  have HSR := Lib.hid (HSR.out.below hb1)
  have hk0 : Blk W0 w.heap.size 24 (cmCells (3, n, K, V, kb)) := by rw [← hW0]; exact Blk.new _ _ _
  have HK := Lib.hid hk0
  rw [hW0]
  clear hW0 hk0
  clear hb1
  refine (light8b _ s true hl _ HSR.out).mono ?_
  rintro e w2 ⟨rfl, hb2⟩
  have HB2 := Lib.hid (HB1.out.trans (hb2.mono HB1.out.size))
  have HM2 := Lib.hid (HM1.out.below hb2)
  have HSR := Lib.hid (HSR.out.below hb2)
  have HK := Lib.hid (HK.out.below hb2 (Blk.lt HK.out))
  clear hb2
  go_wp2_with fail
  refine (right8b _ s true hr _ HSR.out).mono ?_
  rintro e w3 ⟨rfl, hb3⟩
  have HB3 := Lib.hid (HB2.out.trans (hb3.mono HB2.out.size))
  have HM3 := Lib.hid (HM2.out.below hb3)
  have HSR := Lib.hid (HSR.out.below hb3)
  have HK := Lib.hid (HK.out.below hb3 (Blk.lt HK.out))
  clear hb3
  obtain ⟨y0, y1, y2, y3, y4⟩ := cm_results (3, n, K, V, kb) HK.out
  go_wp2_with fail
  refine (HTX.out _ HM3.out).mono ?_
  rintro e w4 ⟨rfl, hb4⟩
  have HB4 := Lib.hid (HB3.out.trans (hb4.mono HB3.out.size))
  have HM4 := Lib.hid (HM3.out.below hb4)
  have HSR := Lib.hid (HSR.out.below hb4)
  have HK := Lib.hid (HK.out.below hb4 (Blk.lt HK.out))
  clear y0 y1 y2 y3 y4
  obtain ⟨y0, y1, y2, y3, y4⟩ := cm_results (3, n, K, V, kb) HK.out
  clear hb4
  go_wp2_with fail
  refine (known8_any m _ HM4.out).mono ?_
  rintro e w5 ⟨rfl, hb5⟩
  have HB5 := Lib.hid (HB4.out.trans (hb5.mono HB4.out.size))
  have HM5 := Lib.hid (HM4.out.below hb5)
  have HSR := Lib.hid (HSR.out.below hb5)
  have HK := Lib.hid (HK.out.below hb5 (Blk.lt HK.out))
  clear hb5
  go_wp2
  go_ret
  exact ⟨rfl, HB5.out⟩
set_option maxHeartbeats 8000000 in
theorem tw_err (v : Value) (s : List Tb) (kd : Int) (n : ByteArray) (K V : Int) (kb : Bool) (m : Int) (w : World) (hm : Wq m w) (h : SR w v s) (hK : i64B K) (hV : i64B V) (hl : lightS s = true) (hr : rightL s = true) (hn : n.size ≤ 30) (hT : textC (kd, n, K, V, kb) ≠ []) (h3 : kd ≠ 3) (he : (doS s kd n K V kb).2.2 ≠ 0) :
    Calls Tryz.prog 8 #[v, .agg #[.int .i64 kd, .string n, .int .i64 K, .int .i64 V, .bool kb]] w fun e w' => e = .returned (.bool true) ∧ Below w.heap.size w w' := by
  have ln : ¬ ((30 : Int) < (n.size : Int)) := by omega
  have HTX := Lib.hid (fun W hW => text_any (kd, n, K, V, kb) m W hW (by show n.size ≤ 1000; omega) hK hV)
  obtain ⟨T, hTT⟩ : ∃ T, bb (textC (kd, n, K, V, kb)) = T := ⟨_, rfl⟩
  have te := bb_emp _ hT
  rw [hTT] at te HTX
  clear hTT
  have hp := (right_iff s).1 hr
  have hkk := (txt_facts hT).1
  have h1 := do_err he
  have n3 : (kd == 3) = false := by rw [beq_eq_false_iff_ne]; exact h3
  have m3 : ¬ (kd = 3) := h3
  obtain ⟨A, r, E, hD⟩ : ∃ A r E, doS s kd n K V kb = (A, r, E) := ⟨_, _, _, rfl⟩
  rw [hD] at h1 he
  simp only at h1 he
  subst h1
  have ne : (E != 0) = true := by rw [bne_iff_ne]; exact he
  have HDO := Lib.hid (fun W hS => doQ _ v A kd n K V kb hD hp hkk hn W hS)
  have HDP := Lib.hid (fun v' W hS => doQ _ v' A kd n K V kb hD hp hkk hn W hS)
  clear hp hkk hD h3
  have HM0 := Lib.hid hm
  have HB0 := Lib.hid (Below.refl w.heap.size w)
  have HSR := Lib.hid h
  obtain ⟨va0, vc0, rfl⟩ := h.form
  clear hm h hn hT he
  go_enter Tryz.func8, Tryz.ntmps8
  go_wp2_with fail
  obtain ⟨W0, hW0⟩ : ∃ W0, w.alloc (.cells #[.int .i64 kd, .string n, .int .i64 K, .int .i64 V, .bool kb] 24) = W0 := ⟨_, rfl⟩
  have hb1 : Below w.heap.size w W0 := by rw [← hW0]; exact (Below.refl _ _).alloc (Nat.le_refl _) _
  have HB1 := Lib.hid (HB0.out.trans (hb1.mono HB0.out.size))
  have HM1 := Lib.hid (HM0.out.below hb1)
  have HSR := Lib.hid (HSR.out.below hb1)
  have hk0 : Blk W0 w.heap.size 24 (cmCells (kd, n, K, V, kb)) := by rw [← hW0]; exact Blk.new _ _ _
  have HK := Lib.hid hk0
  rw [hW0]
  clear hW0 hk0
  clear hb1
  refine (light8b _ A true hl _ HSR.out).mono ?_
  rintro e w2 ⟨rfl, hb2⟩
  have HB2 := Lib.hid (HB1.out.trans (hb2.mono HB1.out.size))
  have HM2 := Lib.hid (HM1.out.below hb2)
  have HSR := Lib.hid (HSR.out.below hb2)
  have HK := Lib.hid (HK.out.below hb2 (Blk.lt HK.out))
  clear hb2
  go_wp2_with fail
  refine (right8b _ A true hr _ HSR.out).mono ?_
  rintro e w3 ⟨rfl, hb3⟩
  have HB3 := Lib.hid (HB2.out.trans (hb3.mono HB2.out.size))
  have HM3 := Lib.hid (HM2.out.below hb3)
  have HSR := Lib.hid (HSR.out.below hb3)
  have HK := Lib.hid (HK.out.below hb3 (Blk.lt HK.out))
  clear hb3
  obtain ⟨y0, y1, y2, y3, y4⟩ := cm_results (kd, n, K, V, kb) HK.out
  go_wp2_with fail
  refine (HTX.out _ HM3.out).mono ?_
  rintro e w4 ⟨rfl, hb4⟩
  have HB4 := Lib.hid (HB3.out.trans (hb4.mono HB3.out.size))
  have HM4 := Lib.hid (HM3.out.below hb4)
  have HSR := Lib.hid (HSR.out.below hb4)
  have HK := Lib.hid (HK.out.below hb4 (Blk.lt HK.out))
  clear y0 y1 y2 y3 y4
  obtain ⟨y0, y1, y2, y3, y4⟩ := cm_results (kd, n, K, V, kb) HK.out
  clear hb4
  go_wp2_with fail
  refine (HDO.out _ HSR.out).mono ?_
  rintro e w5 ⟨va, vr, rfl, sa, rr, hb5⟩
  have HB5 := Lib.hid (HB4.out.trans (hb5.mono HB4.out.size))
  have HM5 := Lib.hid (HM4.out.below hb5)
  have HSR := Lib.hid (HSR.out.below hb5)
  have HK := Lib.hid (HK.out.below hb5 (Blk.lt HK.out))
  have HA := Lib.hid sa
  clear y0 y1 y2 y3 y4 rr
  obtain ⟨y0, y1, y2, y3, y4⟩ := cm_results (kd, n, K, V, kb) HK.out
  clear hb5 sa
  go_wp2_with fail
  refine (HDP.out va _ HA.out).mono ?_
  rintro e w6 ⟨vb, vs, rfl, sb, rs, hb6⟩
  have HB6 := Lib.hid (HB5.out.trans (hb6.mono HB5.out.size))
  have HM6 := Lib.hid (HM5.out.below hb6)
  have HSR := Lib.hid (HSR.out.below hb6)
  have HA := Lib.hid (HA.out.below hb6)
  have HK := Lib.hid (HK.out.below hb6 (Blk.lt HK.out))
  clear y0 y1 y2 y3 y4 rs sb
  clear hb6
  go_wp2_with fail
  refine (known8_any m _ HM6.out).mono ?_
  rintro e w7 ⟨rfl, hb7⟩
  have HB7 := Lib.hid (HB6.out.trans (hb7.mono HB6.out.size))
  have HM7 := Lib.hid (HM6.out.below hb7)
  have HSR := Lib.hid (HSR.out.below hb7)
  have HA := Lib.hid (HA.out.below hb7)
  have HK := Lib.hid (HK.out.below hb7 (Blk.lt HK.out))
  clear hb7
  go_wp2
  go_ret
  exact ⟨rfl, HB7.out⟩
set_option maxHeartbeats 8000000 in
theorem tw_new (v : Value) (s : List Tb) (n : ByteArray) (K V : Int) (kb : Bool) (m : Int) (w : World) (hm : Wq m w) (h : SR w v s) (hK : i64B K) (hV : i64B V) (hl : lightS s = true) (hr : rightL s = true) (hn : n.size ≤ 30) (hT : textC (5, n, K, V, kb) ≠ []) (he : (doS s 5 n K V kb).2.2 = 0) :
    Calls Tryz.prog 8 #[v, .agg #[.int .i64 5, .string n, .int .i64 K, .int .i64 V, .bool kb]] w fun e w' => e = .returned (.bool true) ∧ Below w.heap.size w w' := by
  have ln : ¬ ((30 : Int) < (n.size : Int)) := by omega
  have HTX := Lib.hid (fun W hW => text_any (5, n, K, V, kb) m W hW (by show n.size ≤ 1000; omega) hK hV)
  obtain ⟨T, hTT⟩ : ∃ T, bb (textC (5, n, K, V, kb)) = T := ⟨_, rfl⟩
  have te := bb_emp _ hT
  rw [hTT] at te HTX
  clear hTT
  have hp := (right_iff s).1 hr
  have hf := txt_facts hT
  have hkk := hf.1
  have hq := do_right (kd := 5) (kb := kb) hp hf.2.1 hf.2.2.1 hf.2.2.2.1
  obtain ⟨h1, h2⟩ := twice_new (kb := kb) hp hf.2.1 hf.2.2.1 hf.2.2.2.1 he
  obtain ⟨A, r, E, hD⟩ : ∃ A r E, doS s 5 n K V kb = (A, r, E) := ⟨_, _, _, rfl⟩
  rw [hD] at h1 h2 he hq
  simp only at h1 h2 he hq
  subst he
  have HDO := Lib.hid (fun W hS => doQ _ v s 5 n K V kb hD hp hkk hn W hS)
  have HDP := Lib.hid (fun v' W hS => doQ _ v' A 5 n K V kb h1 hq hkk hn W hS)
  have HDG := Lib.hid (fun v' W hS => doQ _ v' A 1 n 0 0 false h2 hq (by decide) hn W hS)
  have HSA := Lib.hid (fun v1 v2 W h1 h2 => sameQ v1 v2 A hq W h1 h2)
  clear hp hkk hD h1 h2 hq hf
  have HM0 := Lib.hid hm
  have HB0 := Lib.hid (Below.refl w.heap.size w)
  have HSR := Lib.hid h
  obtain ⟨va0, vc0, rfl⟩ := h.form
  clear hm h hn hT
  go_enter Tryz.func8, Tryz.ntmps8
  go_wp2_with fail
  obtain ⟨W0, hW0⟩ : ∃ W0, w.alloc (.cells #[.int .i64 5, .string n, .int .i64 K, .int .i64 V, .bool kb] 24) = W0 := ⟨_, rfl⟩
  have hb1 : Below w.heap.size w W0 := by rw [← hW0]; exact (Below.refl _ _).alloc (Nat.le_refl _) _
  have HB1 := Lib.hid (HB0.out.trans (hb1.mono HB0.out.size))
  have HM1 := Lib.hid (HM0.out.below hb1)
  have HSR := Lib.hid (HSR.out.below hb1)
  have hk0 : Blk W0 w.heap.size 24 (cmCells (5, n, K, V, kb)) := by rw [← hW0]; exact Blk.new _ _ _
  have HK := Lib.hid hk0
  rw [hW0]
  clear hW0 hk0
  clear hb1
  refine (light8b _ s true hl _ HSR.out).mono ?_
  rintro e w2 ⟨rfl, hb2⟩
  have HB2 := Lib.hid (HB1.out.trans (hb2.mono HB1.out.size))
  have HM2 := Lib.hid (HM1.out.below hb2)
  have HSR := Lib.hid (HSR.out.below hb2)
  have HK := Lib.hid (HK.out.below hb2 (Blk.lt HK.out))
  clear hb2
  go_wp2_with fail
  refine (right8b _ s true hr _ HSR.out).mono ?_
  rintro e w3 ⟨rfl, hb3⟩
  have HB3 := Lib.hid (HB2.out.trans (hb3.mono HB2.out.size))
  have HM3 := Lib.hid (HM2.out.below hb3)
  have HSR := Lib.hid (HSR.out.below hb3)
  have HK := Lib.hid (HK.out.below hb3 (Blk.lt HK.out))
  clear hb3
  obtain ⟨y0, y1, y2, y3, y4⟩ := cm_results (5, n, K, V, kb) HK.out
  go_wp2_with fail
  refine (HTX.out _ HM3.out).mono ?_
  rintro e w4 ⟨rfl, hb4⟩
  have HB4 := Lib.hid (HB3.out.trans (hb4.mono HB3.out.size))
  have HM4 := Lib.hid (HM3.out.below hb4)
  have HSR := Lib.hid (HSR.out.below hb4)
  have HK := Lib.hid (HK.out.below hb4 (Blk.lt HK.out))
  clear y0 y1 y2 y3 y4
  obtain ⟨y0, y1, y2, y3, y4⟩ := cm_results (5, n, K, V, kb) HK.out
  clear hb4
  go_wp2_with fail
  refine (HDO.out _ HSR.out).mono ?_
  rintro e w5 ⟨va, vr, rfl, sa, rr, hb5⟩
  have HB5 := Lib.hid (HB4.out.trans (hb5.mono HB4.out.size))
  have HM5 := Lib.hid (HM4.out.below hb5)
  have HSR := Lib.hid (HSR.out.below hb5)
  have HK := Lib.hid (HK.out.below hb5 (Blk.lt HK.out))
  have HA := Lib.hid sa
  clear y0 y1 y2 y3 y4 rr
  obtain ⟨y0, y1, y2, y3, y4⟩ := cm_results (5, n, K, V, kb) HK.out
  clear hb5 sa
  go_wp2_with fail
  refine (HDP.out va _ HA.out).mono ?_
  rintro e w6 ⟨vb, vs, rfl, sb, rs, hb6⟩
  have HB6 := Lib.hid (HB5.out.trans (hb6.mono HB5.out.size))
  have HM6 := Lib.hid (HM5.out.below hb6)
  have HSR := Lib.hid (HSR.out.below hb6)
  have HA := Lib.hid (HA.out.below hb6)
  have HK := Lib.hid (HK.out.below hb6 (Blk.lt HK.out))
  have HBB := Lib.hid sb
  clear y0 y1 y2 y3 y4 rs
  obtain ⟨y0, y1, y2, y3, y4⟩ := cm_results (5, n, K, V, kb) HK.out
  clear hb6 sb
  go_wp2_with fail
  refine (HDG.out va _ HA.out).mono ?_
  rintro e w7 ⟨vg, vt, rfl, sg, rt, hb7⟩
  have HB7 := Lib.hid (HB6.out.trans (hb7.mono HB6.out.size))
  have HM7 := Lib.hid (HM6.out.below hb7)
  have HSR := Lib.hid (HSR.out.below hb7)
  have HA := Lib.hid (HA.out.below hb7)
  have HBB := Lib.hid (HBB.out.below hb7)
  have HK := Lib.hid (HK.out.below hb7 (Blk.lt HK.out))
  clear y0 y1 y2 y3 y4 sg
  obtain ⟨ga, gc, rfl⟩ := rt.form
  clear rt
  clear hb7
  go_wp2_with fail
  refine (HSA.out va vb _ HA.out HBB.out).mono ?_
  rintro e w8 ⟨rfl, hb8⟩
  have HB8 := Lib.hid (HB7.out.trans (hb8.mono HB7.out.size))
  have HM8 := Lib.hid (HM7.out.below hb8)
  have HSR := Lib.hid (HSR.out.below hb8)
  have HA := Lib.hid (HA.out.below hb8)
  have HBB := Lib.hid (HBB.out.below hb8)
  have HK := Lib.hid (HK.out.below hb8 (Blk.lt HK.out))
  clear hb8
  go_wp2_with fail
  refine (known8_any m _ HM8.out).mono ?_
  rintro e w9 ⟨rfl, hb9⟩
  have HB9 := Lib.hid (HB8.out.trans (hb9.mono HB8.out.size))
  have HM9 := Lib.hid (HM8.out.below hb9)
  have HSR := Lib.hid (HSR.out.below hb9)
  have HA := Lib.hid (HA.out.below hb9)
  have HBB := Lib.hid (HBB.out.below hb9)
  have HK := Lib.hid (HK.out.below hb9 (Blk.lt HK.out))
  clear hb9
  go_wp2
  go_ret
  exact ⟨rfl, HB9.out⟩
set_option maxHeartbeats 8000000 in
theorem tw_same (v : Value) (s : List Tb) (kd : Int) (n : ByteArray) (K V : Int) (kb : Bool) (m : Int) (w : World) (hm : Wq m w) (h : SR w v s) (hK : i64B K) (hV : i64B V) (hl : lightS s = true) (hr : rightL s = true) (hn : n.size ≤ 30) (hT : textC (kd, n, K, V, kb) ≠ []) (h3 : kd ≠ 3) (h5 : kd ≠ 5) (he : (doS s kd n K V kb).2.2 = 0) :
    Calls Tryz.prog 8 #[v, .agg #[.int .i64 kd, .string n, .int .i64 K, .int .i64 V, .bool kb]] w fun e w' => e = .returned (.bool true) ∧ Below w.heap.size w w' := by
  have ln : ¬ ((30 : Int) < (n.size : Int)) := by omega
  have HTX := Lib.hid (fun W hW => text_any (kd, n, K, V, kb) m W hW (by show n.size ≤ 1000; omega) hK hV)
  obtain ⟨T, hTT⟩ : ∃ T, bb (textC (kd, n, K, V, kb)) = T := ⟨_, rfl⟩
  have te := bb_emp _ hT
  rw [hTT] at te HTX
  clear hTT
  have hp := (right_iff s).1 hr
  have hf := txt_facts hT
  have hkk := hf.1
  have hq := do_right (kd := kd) (kb := kb) hp hf.2.1 hf.2.2.1 hf.2.2.2.1
  obtain ⟨h1, h2⟩ := twice_same (kb := kb) hp hf.2.1 hf.2.2.1 hf.2.2.2.1 h5 h3 he
  have n3 : (kd == 3) = false := by rw [beq_eq_false_iff_ne]; exact h3
  have m3 : ¬ (kd = 3) := h3
  have n5 : (kd == 5) = false := by rw [beq_eq_false_iff_ne]; exact h5
  have m5 : ¬ (kd = 5) := h5
  obtain ⟨A, r, E, hD⟩ : ∃ A r E, doS s kd n K V kb = (A, r, E) := ⟨_, _, _, rfl⟩
  rw [hD] at h1 h2 he hq
  simp only at h1 h2 he hq
  subst he
  obtain ⟨A2, r2, E2, hD2⟩ : ∃ A' r' E', doS A kd n K V kb = (A', r', E') := ⟨_, _, _, rfl⟩
  rw [hD2] at h1 h2
  simp only at h1 h2
  subst h1 h2
  have HDO := Lib.hid (fun W hS => doQ _ v s kd n K V kb hD hp hkk hn W hS)
  have HDP := Lib.hid (fun v' W hS => doQ _ v' _ kd n K V kb hD2 hq hkk hn W hS)
  have HSA := Lib.hid (fun v1 v2 W h1 h2 => sameQ v1 v2 _ hq W h1 h2)
  clear hp hkk hD hD2 hq hf h3 h5
  have HM0 := Lib.hid hm
  have HB0 := Lib.hid (Below.refl w.heap.size w)
  have HSR := Lib.hid h
  obtain ⟨va0, vc0, rfl⟩ := h.form
  clear hm h hn hT
  go_enter Tryz.func8, Tryz.ntmps8
  go_wp2_with fail
  obtain ⟨W0, hW0⟩ : ∃ W0, w.alloc (.cells #[.int .i64 kd, .string n, .int .i64 K, .int .i64 V, .bool kb] 24) = W0 := ⟨_, rfl⟩
  have hb1 : Below w.heap.size w W0 := by rw [← hW0]; exact (Below.refl _ _).alloc (Nat.le_refl _) _
  have HB1 := Lib.hid (HB0.out.trans (hb1.mono HB0.out.size))
  have HM1 := Lib.hid (HM0.out.below hb1)
  have HSR := Lib.hid (HSR.out.below hb1)
  have hk0 : Blk W0 w.heap.size 24 (cmCells (kd, n, K, V, kb)) := by rw [← hW0]; exact Blk.new _ _ _
  have HK := Lib.hid hk0
  rw [hW0]
  clear hW0 hk0
  clear hb1
  refine (light8b _ s true hl _ HSR.out).mono ?_
  rintro e w2 ⟨rfl, hb2⟩
  have HB2 := Lib.hid (HB1.out.trans (hb2.mono HB1.out.size))
  have HM2 := Lib.hid (HM1.out.below hb2)
  have HSR := Lib.hid (HSR.out.below hb2)
  have HK := Lib.hid (HK.out.below hb2 (Blk.lt HK.out))
  clear hb2
  go_wp2_with fail
  refine (right8b _ s true hr _ HSR.out).mono ?_
  rintro e w3 ⟨rfl, hb3⟩
  have HB3 := Lib.hid (HB2.out.trans (hb3.mono HB2.out.size))
  have HM3 := Lib.hid (HM2.out.below hb3)
  have HSR := Lib.hid (HSR.out.below hb3)
  have HK := Lib.hid (HK.out.below hb3 (Blk.lt HK.out))
  clear hb3
  obtain ⟨y0, y1, y2, y3, y4⟩ := cm_results (kd, n, K, V, kb) HK.out
  go_wp2_with fail
  refine (HTX.out _ HM3.out).mono ?_
  rintro e w4 ⟨rfl, hb4⟩
  have HB4 := Lib.hid (HB3.out.trans (hb4.mono HB3.out.size))
  have HM4 := Lib.hid (HM3.out.below hb4)
  have HSR := Lib.hid (HSR.out.below hb4)
  have HK := Lib.hid (HK.out.below hb4 (Blk.lt HK.out))
  clear y0 y1 y2 y3 y4
  obtain ⟨y0, y1, y2, y3, y4⟩ := cm_results (kd, n, K, V, kb) HK.out
  clear hb4
  go_wp2_with fail
  refine (HDO.out _ HSR.out).mono ?_
  rintro e w5 ⟨va, vr, rfl, sa, rr, hb5⟩
  have HB5 := Lib.hid (HB4.out.trans (hb5.mono HB4.out.size))
  have HM5 := Lib.hid (HM4.out.below hb5)
  have HSR := Lib.hid (HSR.out.below hb5)
  have HK := Lib.hid (HK.out.below hb5 (Blk.lt HK.out))
  have HA := Lib.hid sa
  clear y0 y1 y2 y3 y4 rr
  obtain ⟨y0, y1, y2, y3, y4⟩ := cm_results (kd, n, K, V, kb) HK.out
  clear hb5 sa
  go_wp2_with fail
  refine (HDP.out va _ HA.out).mono ?_
  rintro e w6 ⟨vb, vs, rfl, sb, rs, hb6⟩
  have HB6 := Lib.hid (HB5.out.trans (hb6.mono HB5.out.size))
  have HM6 := Lib.hid (HM5.out.below hb6)
  have HSR := Lib.hid (HSR.out.below hb6)
  have HA := Lib.hid (HA.out.below hb6)
  have HK := Lib.hid (HK.out.below hb6 (Blk.lt HK.out))
  have HBB := Lib.hid sb
  clear y0 y1 y2 y3 y4 rs
  obtain ⟨y0, y1, y2, y3, y4⟩ := cm_results (kd, n, K, V, kb) HK.out
  clear hb6 sb
  go_wp2_with fail
  refine (HSA.out va vb _ HA.out HBB.out).mono ?_
  rintro e w7 ⟨rfl, hb7⟩
  have HB7 := Lib.hid (HB6.out.trans (hb7.mono HB6.out.size))
  have HM7 := Lib.hid (HM6.out.below hb7)
  have HSR := Lib.hid (HSR.out.below hb7)
  have HA := Lib.hid (HA.out.below hb7)
  have HBB := Lib.hid (HBB.out.below hb7)
  have HK := Lib.hid (HK.out.below hb7 (Blk.lt HK.out))
  clear y0 y1 y2 y3 y4
  clear hb7
  go_wp2_with fail
  refine (known8_any m _ HM7.out).mono ?_
  rintro e w8 ⟨rfl, hb8⟩
  have HB8 := Lib.hid (HB7.out.trans (hb8.mono HB7.out.size))
  have HM8 := Lib.hid (HM7.out.below hb8)
  have HSR := Lib.hid (HSR.out.below hb8)
  have HA := Lib.hid (HA.out.below hb8)
  have HBB := Lib.hid (HBB.out.below hb8)
  have HK := Lib.hid (HK.out.below hb8 (Blk.lt HK.out))
  clear hb8
  go_wp2
  go_ret
  exact ⟨rfl, HB8.out⟩
theorem twice_any (v c : Value) (m : Int) (w : World) (hm : Wq m w) (hs : FitsS w v) (hc : FitsC w c) :
    Calls Tryz.prog 8 #[v, c] w fun e w' => e = .returned (.bool true) ∧ Below w.heap.size w w' := by
  obtain ⟨s, h⟩ := hs
  obtain ⟨kd, n, K, V, kb, rfl, h0, hK, hV, _⟩ := hc
  cases hl : lightS s with
  | false => exact tw_light v s kd n K V kb m w hm h hK hV hl
  | true =>
    cases hr : rightL s with
    | false => exact tw_right v s kd n K V kb m w hm h hK hV hl hr
    | true =>
      by_cases hn : n.size ≤ 30
      · by_cases hT : textC (kd, n, K, V, kb) = []
        · exact tw_text v s kd n K V kb m w hm h hK hV hl hr hn hT
        · by_cases h3 : kd = 3
          · subst h3; exact tw_add v s n K V kb m w hm h hK hV hl hr hn hT
          · by_cases he : (doS s kd n K V kb).2.2 = 0
            · by_cases h5 : kd = 5
              · subst h5; exact tw_new v s n K V kb m w hm h hK hV hl hr hn hT he
              · exact tw_same v s kd n K V kb m w hm h hK hV hl hr hn hT h3 h5 he
            · exact tw_err v s kd n K V kb m w hm h hK hV hl hr hn hT h3 he
      · exact tw_name v s kd n K V kb m w hm h hK hV hl hr (by omega)
end Go.Proofs.YtjloookjlnmgdaaGreatDoor
