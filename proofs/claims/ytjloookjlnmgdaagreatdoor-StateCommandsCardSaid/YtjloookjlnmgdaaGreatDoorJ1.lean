/- Dq, Dr -/
import Derived.Test.YtjloookjlnmgdaaGreatDoorG21
import Derived.Test.YtjloookjlnmgdaaGreatDoorG17
import Derived.Lib.LaidU8
import Derived.Stop.LaidErr
import Derived.Test.YtjloookjlnmgdaaGreatDoorG1
import Derived.Deep.Slices
import Derived.Deep.Fields
import Derived.ChangeSame
import Derived.Lib.SmallJoins
set_option linter.unusedSimpArgs false
set_option linter.unusedVariables false
namespace Go.Proofs.YtjloookjlnmgdaaGreatDoor
open Go.ChangeShapes Go.WideShapes Go.ChangeAt Go.RowKit
set_option maxRecDepth 100000
set_option linter.unusedVariables false
set_option linter.unusedSimpArgs false

theorem returns_laid {H : Type} {enc : TypeId × Value → H} {a : Assume} {C : Checked} {os : Os} {f : FuncId} {fn : Func} {s : ChangeSpec} {conds : List PathCond} {apart fresh handsOn again : Bool} {laid : List (String × DataW Unit)}
    (hpl : (laid.all fun x => x.2.handleName?.isNone) = true)
    (own : ownKnob C.prog.godebug = none) (started : os.Started) (noInit : C.prog.inits.idxOf? f = none) (hfn : C.prog.funcs[f]? = some fn)
    (witness : ∃ (w : World) (tape : Tape) (i : Input), w.os = os ∧ (w.forCall tape i).Shaped C.prog ∧ i.vars = [] ∧ Input.okWide C.prog (w.forCall tape i) .any w.heap.size f i ∧
      ((s.pre enc C.prog fn conds apart (w.forCall tape i).memory i.args ∧ laidMetH C.prog laid (w.forCall tape i).memory) ∧ sizedMet enc C.prog fn (OpenSpec.ofChange s) apart (w.forCall tape i).memory i.args) ∧ a.holds C.prog (lone (Frame.enter C.prog f i.args .normal) [] (w.forCall tape i)))
    (contract : ∀ (W : World) (base : Nat) (args : Array Value) (ds gs : List (DataW H)) (before : List MemPlace),
      (∀ (j : Nat) t v, fn.params[j]? = some t → args[j]? = some v → Value.okWide C.prog W .any base t v) →
      DataW.Whole enc C.prog fn.params.toList s.vars apart W args.toList ds gs before →
      conds.all (PathCond.test C.prog ⟨fn.params.toList, ds, s.plain.varTypes C.prog, gs⟩) = true →
      (DataW.weightsEach C.prog (fn.params.toList ++ s.plain.varTypes C.prog) (ds ++ gs)).all (· ≤ reachBytes) = true →
      W.ShapedOpen C.prog ∧ laidMet C.prog laid W →
      a.holds C.prog (lone (Frame.enter C.prog f args .normal) [] W) →
      Calls C.prog f args W fun e W' => ∃ v, e = .returned v ∧ s.post enc C.prog fn apart fresh handsOn again W args v W') :
    ReturnsInHanded a C os f .any (fun w args => (s.pre enc C.prog fn conds apart w args ∧ laidMetH C.prog laid w) ∧ sizedMet enc C.prog fn (OpenSpec.ofChange s) apart w args) (s.post enc C.prog fn apart fresh handsOn again) := by
  refine returnsInHanded_of_calls own started noInit witness ?_
  intro w tape i _ hsh _ hok hpre hholds
  obtain ⟨_, _, _, fn', hfn', _, _, _, _, hval⟩ := hok
  obtain rfl : fn' = fn := Option.some.inj (hfn'.symm.trans hfn)
  obtain ⟨⟨⟨ds, gs, before, hw, hc⟩, hx⟩, hz⟩ := hpre
  rw [MakeChecks.laidMetH_plain _ _ _ hpl] at hx
  refine (contract (w.forCall tape i) w.heap.size i.args ds gs before hval (DataW.Whole.of_heap (w' := w.forCall tape i) (by rfl) hw) hc (hz.weights hw) ⟨hsh, laidMet.of_heap (w := (w.forCall tape i).memory) (w' := w.forCall tape i) rfl hx⟩ hholds).mono fun e W' ⟨v, he, hp⟩ => ?_
  subst he
  exact ChangeSpec.post_blind hp

theorem form_cells {W : World} {fuel : Nat} {cs : List Value} {p : List MemPlace} {k : Int} {b : Bool} {s : List UInt8} (h : DataW.trod (fun _ => ()) Tryz.prog W 0 (fun _ => true) false fuel 51 cs = some (.agg [.lit (.int .i64 k), .lit (.bool b), .lit (.string s)], p)) :
    cs = [.int .i64 k, .bool b, .string ⟨s.toArray⟩] := by
  have hu := Tryz.underlying51
  have hct : Tryz.prog.cellsOf 51 = 3 := by kernel_rfl
  have c3 : Tryz.prog.cellsOf 3 = 1 := by kernel_rfl
  have c4 : Tryz.prog.cellsOf 4 = 1 := by kernel_rfl
  have c9 : Tryz.prog.cellsOf 9 = 1 := by kernel_rfl
  obtain ⟨xs, n, rfl, hx, hl, hxl, hall⟩ := DataW.trod_struct hu h
  rw [hct] at hl
  have hxs : xs.map (·.1) = [.lit (.int .i64 k), .lit (.bool b), .lit (.string s)] := by
    have := congrArg Prod.fst hx
    simpa using this.symm
  match cs, hl with
  | [a0, a1, a2], _ =>
    match xs, hxl, hxs, hall with
    | [y0, y1, y2], _, hxs, hall =>
      have h0 : DataW.trod (fun _ => ()) Tryz.prog W 0 (fun _ => true) false n 3 ((([a0, a1, a2] : List Value).drop 0).take (Tryz.prog.cellsOf 3)) = ([y0, y1, y2] : List (DataW Unit × List MemPlace))[0]? := hall 0 _ rfl
      have h1 : DataW.trod (fun _ => ()) Tryz.prog W 0 (fun _ => true) false n 4 ((([a0, a1, a2] : List Value).drop 1).take (Tryz.prog.cellsOf 4)) = ([y0, y1, y2] : List (DataW Unit × List MemPlace))[1]? := hall 1 _ rfl
      have h2 : DataW.trod (fun _ => ()) Tryz.prog W 0 (fun _ => true) false n 9 ((([a0, a1, a2] : List Value).drop 2).take (Tryz.prog.cellsOf 9)) = ([y0, y1, y2] : List (DataW Unit × List MemPlace))[2]? := hall 2 _ rfl
      rw [c3] at h0
      rw [c4] at h1
      rw [c9] at h2
      obtain ⟨y00, y01⟩ := y0
      obtain ⟨y10, y11⟩ := y1
      obtain ⟨y20, y21⟩ := y2
      obtain ⟨z, e0, f0, _⟩ := DataW.trod_int (x := (y00, y01)) Tryz.underlying3 h0
      obtain ⟨q, e1, f1⟩ := DataW.trod_bool (x := (y10, y11)) Tryz.underlying4 h1
      obtain ⟨r, e2, f2, _⟩ := DataW.trod_string (x := (y20, y21)) Tryz.underlying9 h2
      injection f0 with f0 _
      injection f1 with f1 _
      injection f2 with f2 _
      subst f0 f1 f2
      simp only [List.map_cons, List.map_nil, List.cons.injEq, and_true, DataW.lit.injEq, Lit.int.injEq, Lit.bool.injEq, Lit.string.injEq, true_and, List.drop_zero, List.drop_succ_cons, List.take_succ_cons, List.take_zero] at hxs e0 e1 e2
      obtain ⟨g0, g1, g2⟩ := hxs
      subst e0 e1 e2 g0 g1 g2
      rfl
theorem forms_laid {W : World} (h : Lib.VarReads Tryz.prog W "pontoon/state.forms" Rows.laid_pontoon_state_forms) : ∃ t fr, W.heap[0]? = some (.cells formCells t fr) := by
  obtain ⟨g, t, cs, fuel, p, hg, hty, hvar, hd⟩ := h
  obtain rfl := Option.some.inj ((show Tryz.prog.globalNamed "pontoon/state.forms" = some 0 by kernel_rfl).symm.trans hg)
  obtain rfl := Option.some.inj ((show (Tryz.prog.globals[0]?).map (·.type) = some 52 by kernel_rfl).symm.trans hty)
  have hc51 : Tryz.prog.cellsOf 51 = 3 := by kernel_rfl
  have hc52 : Tryz.prog.cellsOf 52 = 21 := by kernel_rfl
  have hel := fun i hi => Lib.array_elem Tryz.underlying52 hd i hi
  rw [hc51] at hel
  have hcl : cs.toList.length = 21 := by
    cases fuel with
    | zero => simp [DataW.trod] at hd
    | succ fuel =>
      simp only [DataW.trod, Tryz.underlying52, hc51, hc52] at hd
      split at hd
      · rename_i hl; simpa using hl
      · cases hd
  have key : ∀ (i : Nat) (hi : i < 7) (k : Int) (b : Bool) (s : List UInt8), (match Rows.laid_pontoon_state_forms (H := Unit) with | .agg ds => ds[i]? | _ => none) = some (.agg [.lit (.int .i64 k), .lit (.bool b), .lit (.string s)]) → (cs.toList.drop (i * 3)).take 3 = [.int .i64 k, .bool b, .string ⟨s.toArray⟩] := by
    intro i hi k b s hs
    obtain ⟨f', d, q, h1, h2⟩ := hel i hi
    have : some d = some (DataW.agg [.lit (.int .i64 k), .lit (.bool b), .lit (.string s)]) := h1.symm.trans hs
    injection this with this
    subst this
    exact form_cells h2
  have k0 := key 0 (by decide) _ _ _ rfl
  have k1 := key 1 (by decide) _ _ _ rfl
  have k2 := key 2 (by decide) _ _ _ rfl
  have k3 := key 3 (by decide) _ _ _ rfl
  have k4 := key 4 (by decide) _ _ _ rfl
  have k5 := key 5 (by decide) _ _ _ rfl
  have k6 := key 6 (by decide) _ _ _ rfl
  have hcs : cs.toList = formsC.flatMap fmCells := by
    have split7 : cs.toList = (cs.toList.drop (0 * 3)).take 3 ++ ((cs.toList.drop (1 * 3)).take 3 ++ ((cs.toList.drop (2 * 3)).take 3 ++ ((cs.toList.drop (3 * 3)).take 3 ++ ((cs.toList.drop (4 * 3)).take 3 ++ ((cs.toList.drop (5 * 3)).take 3 ++ (cs.toList.drop (6 * 3)).take 3))))) := by
      generalize cs.toList = L at hcl
      match L, hcl with
      | [_, _, _, _, _, _, _, _, _, _, _, _, _, _, _, _, _, _, _, _, _], _ => rfl
    rw [split7, k0, k1, k2, k3, k4, k5, k6]
    rfl
  have hce : cs = formCells := by
    apply Array.toList_inj.1
    rw [hcs]
    rfl
  subst hce
  unfold World.var? at hvar
  rw [hg] at hvar
  simp only [Option.bind_some] at hvar
  split at hvar
  · rename_i c t fr he
    injection hvar with hvar
    subst hvar
    exact ⟨t, fr, he⟩
  · cases hvar
theorem star_err : "*" ++ "errors.errorString" = "*errors.errorString" := by decide
theorem row_err (u : TypeId) (h : Tryz.prog.typeName? 3 u = some "*errors.errorString") : u = 251 :=
  typeName_ptr_named (nm := "errors.errorString") (by rw [star_err]; kernel_rfl) (by kernel_rfl) (by decide) u (by rw [star_err]; exact h)
theorem wq_laid {W : World} (hs : W.ShapedOpen Tryz.prog) (hL : laidMet Tryz.prog Rows.stateBackRow.laid W) : ∃ m, Wq m W := by
  obtain ⟨m, hm⟩ := the_word hs
  refine ⟨m, hm, ?_, ?_, ?_⟩
  · have h3 : laidMet Tryz.prog (("internal/strconv.uint64pow10", Lib.tabData .u64 Lib.pow10Tab) :: _) W := hL.tail.tail
    exact Lib.tabIs_of_head (show Tryz.prog.globalNamed "internal/strconv.uint64pow10" = some 2 by kernel_rfl) (by kernel_rfl) Tryz.underlying206 Tryz.underlying169 (by kernel_rfl) (by kernel_rfl) h3
  · exact forms_laid (Lib.laidMet.reads hL (by simp [Rows.stateBackRow]))
  · obtain ⟨a, s, hv, _⟩ := laid_sentinel (hL.tail.tail.tail.tail.tail) (show Tryz.prog.globalNamed "strconv.ErrSyntax" = some 3 by kernel_rfl) (by kernel_rfl) Tryz.underlying143 row_err Tryz.underlying251 Tryz.underlying253 rfl rfl Tryz.underlying9 (by kernel_rfl) (by kernel_rfl)
    refine ⟨_, World.var?_cell (show Tryz.prog.globalNamed "strconv.ErrSyntax" = some 3 by kernel_rfl) hv 0, .inr ⟨_, _, rfl⟩⟩
end Go.Proofs.YtjloookjlnmgdaaGreatDoor
namespace Go.Proofs.YtjloookjlnmgdaaGreatDoor
set_option linter.unusedSimpArgs false
open Go.ChangeShapes Go.WideShapes Go.ChangeAt Go.RowKit
set_option maxRecDepth 100000
open Go.ChangeMaps (open_string shut_string)
open Go.Deep
set_option linter.unusedVariables false

theorem one_int : Tryz.prog.cellsOf 3 = 1 := by kernel_rfl
theorem one_bool : Tryz.prog.cellsOf 4 = 1 := by kernel_rfl
theorem one_str : Tryz.prog.cellsOf 9 = 1 := by kernel_rfl
theorem one_rows : Tryz.prog.cellsOf 36 = 1 := by kernel_rfl
def FitsC (W : World) (v : Value) : Prop := ∃ (kd : Int) (n : ByteArray) (K V : Int) (kb : Bool), v = .agg #[.int .i64 kd, .string n, .int .i64 K, .int .i64 V, .bool kb] ∧ i64B kd ∧ i64B K ∧ i64B V ∧ n.size ≤ 140737488351232
theorem i64_of (x : Int) (h : (Lit.int .i64 x).wf = true) : i64B x := by
  unfold i64B
  simp [Lit.wf, IntKind.min, IntKind.max, IntKind.signed, IntKind.bits] at h
  omega
theorem openedC {H : Type} {enc : TypeId × Value → H} {W : World} {base : Nat} {v : Value} {d : DataW H} {p : List MemPlace} (hv : Value.okWide Tryz.prog W .any base 24 v)
    (h : DataW.Trod enc Tryz.prog W 0 (fun _ => true) true 24 v d p) (hz : (DataW.weights Tryz.prog 24 d).all (· ≤ reachBytes) = true) : FitsC W v := by
  obtain ⟨cs, rfl, hsz⟩ := okWide_struct Tryz.underlying24 hv
  rw [show Tryz.prog.cellsOf 24 = 5 by kernel_rfl] at hsz
  obtain ⟨cs⟩ := cs
  obtain ⟨fuel, hf⟩ := h
  obtain ⟨xs, n, _, hx, _, hxl, hat⟩ := DataW.trod_struct Tryz.underlying24 hf
  match cs, hsz with
  | [c0, c1, c2, c3, c4], _ =>
  match xs, hxl with
  | [y0, y1, y2, y3, y4], _ =>
  simp only [Prod.mk.injEq] at hx
  have h0 : DataW.trod enc Tryz.prog W 0 (fun _ => true) true n 3 (List.take (Tryz.prog.cellsOf 3) (List.drop 0 [c0, c1, c2, c3, c4])) = some y0 := hat 0 _ rfl
  have h1 : DataW.trod enc Tryz.prog W 0 (fun _ => true) true n 9 (List.take (Tryz.prog.cellsOf 9) (List.drop 1 [c0, c1, c2, c3, c4])) = some y1 := hat 1 _ rfl
  have h2 : DataW.trod enc Tryz.prog W 0 (fun _ => true) true n 3 (List.take (Tryz.prog.cellsOf 3) (List.drop 2 [c0, c1, c2, c3, c4])) = some y2 := hat 2 _ rfl
  have h3 : DataW.trod enc Tryz.prog W 0 (fun _ => true) true n 3 (List.take (Tryz.prog.cellsOf 3) (List.drop 3 [c0, c1, c2, c3, c4])) = some y3 := hat 3 _ rfl
  have h4 : DataW.trod enc Tryz.prog W 0 (fun _ => true) true n 4 (List.take (Tryz.prog.cellsOf 4) (List.drop 4 [c0, c1, c2, c3, c4])) = some y4 := hat 4 _ rfl
  have hW : ∀ k ∈ DataW.weights Tryz.prog 9 y1.1, k ≤ reachBytes := by
    intro k hk
    refine of_decide_eq_true (List.all_eq_true.1 hz k ?_)
    rw [hx.1]
    simp only [DataW.weights, Tryz.underlying24]
    exact DataW.weights_mem_each (j := 1) (t := 9) (d := y1.1) rfl rfl k hk
  clear hat hf hv hz
  rw [one_int] at h0 h2 h3
  rw [one_str] at h1
  rw [one_bool] at h4
  obtain ⟨x0, e0, _, w0⟩ := DataW.trod_int Tryz.underlying3 h0
  obtain ⟨x1, e1, d1, _⟩ := DataW.trod_string Tryz.underlying9 h1
  obtain ⟨x2, e2, _, w2⟩ := DataW.trod_int Tryz.underlying3 h2
  obtain ⟨x3, e3, _, w3⟩ := DataW.trod_int Tryz.underlying3 h3
  obtain ⟨x4, e4, _⟩ := DataW.trod_bool Tryz.underlying4 h4
  injection e0 with e0 _
  injection e1 with e1 _
  injection e2 with e2 _
  injection e3 with e3 _
  injection e4 with e4 _
  subst e0 e1 e2 e3 e4
  refine ⟨x0, x1, x2, x3, x4, rfl, i64_of _ w0, i64_of _ w2, i64_of _ w3, ?_⟩
  have := hW x1.data.toList.length (by rw [d1]; simp [DataW.weights])
  rw [← Lib.size_eq] at this
  exact this
section
variable {H : Type} {enc : TypeId × Value → H} {W : World}
theorem one_row_of {n : Nat} {cs : List Value} {x : DataW H × List MemPlace} (ht : DataW.trod enc Tryz.prog W 0 (fun _ => true) true n 45 cs = some x) :
    ∃ r : Rw, cs[0]? = some (.int .i64 r.1) ∧ cs[1]? = some (.int .i64 r.2) := by
  obtain ⟨xs, m, _, hx, hl, hxl, hf⟩ := DataW.trod_struct Tryz.underlying45 ht
  match xs, hxl with
  | [y0, y1], _ =>
    have h0 : DataW.trod enc Tryz.prog W 0 (fun _ => true) true m 3 (List.take (Tryz.prog.cellsOf 3) (List.drop 0 cs)) = some y0 := hf 0 _ rfl
    have h1 : DataW.trod enc Tryz.prog W 0 (fun _ => true) true m 3 (List.take (Tryz.prog.cellsOf 3) (List.drop 1 cs)) = some y1 := hf 1 _ rfl
    rw [one_int] at h0 h1
    obtain ⟨x, e0, _, w0⟩ := DataW.trod_int Tryz.underlying3 h0
    obtain ⟨z, e1, _, w1⟩ := DataW.trod_int Tryz.underlying3 h1
    refine ⟨(x, z), ?_, ?_⟩
    · have := congrArg (·[0]?) e0
      simpa using this
    · have := congrArg (·[0]?) e1
      simpa using this
theorem spot_none {ad : Addr} {x : Value} (h : W.cell? ad = some x) : ad.spot = none := by
  unfold World.cell? at h
  cases hs : ad.spot with
  | none => rfl
  | some q => rw [hs] at h; revert h; split <;> simp
theorem slice2 {α : Type} {ts te : TypeId} {Q : α → Value → Value → Prop} (hu : Tryz.prog.underlying ts = some (.slice te)) (hC : Tryz.prog.cellsOf te = 2)
    (one : ∀ {n : Nat} {cs : List Value} {x : DataW H × List MemPlace}, DataW.trod enc Tryz.prog W 0 (fun _ => true) true n te cs = some x → ∃ (a : α) (v0 v1 : Value), cs[0]? = some v0 ∧ cs[1]? = some v1 ∧ Q a v0 v1)
    {fuel : Nat} {c : Value} {x : DataW H × List MemPlace} (h : DataW.trod enc Tryz.prog W 0 (fun _ => true) true fuel ts [c] = some x) :
    c = .slice none 0 0 ∨ ∃ (l : List α) (ad : Addr) (cap : Nat), c = .slice (some ad) l.length cap ∧ l.length ≤ cap ∧ ∀ (i : Nat) (a : α), l[i]? = some a → ∃ v0 v1, W.cell? (ad.add (i * 2)) = some v0 ∧ W.cell? ((ad.add (i * 2)).add 1) = some v1 ∧ Q a v0 v1 := by
  rcases open_slice hu h with ⟨e, _⟩ | ⟨ad, len, cap, m, n, D, Pl, hcs, hb, hl, hm, hmm, hx, hi⟩
  · injection e with e _
    exact .inl e
  · injection hcs with hcs _
    subst hcs
    rw [hC] at hi
    have hlm : len ≤ m := by rw [hmm]; simp; exact hl
    have key : ∀ j, j ≤ len → ∃ l : List α, l.length = j ∧ ∀ (i : Nat) (a : α), l[i]? = some a → ∃ v0 v1, W.cell? (ad.add (i * 2)) = some v0 ∧ W.cell? ((ad.add (i * 2)).add 1) = some v1 ∧ Q a v0 v1 := by
      intro j
      induction j with
      | zero => intro _; exact ⟨[], rfl, fun i x hi => by simp at hi⟩
      | succ j ih =>
        intro hj
        obtain ⟨l, h1, h2⟩ := ih (by omega)
        obtain ⟨cs', hc, ht⟩ := hi j (by omega)
        obtain ⟨_, hcl, hat⟩ := World.cells?_some hc
        obtain ⟨a, v0, v1, e0, e1, hq⟩ := one ht
        refine ⟨l ++ [a], by simp [h1], fun i x hx' => ?_⟩
        by_cases hij : i < l.length
        · rw [List.getElem?_append_left hij] at hx'
          exact h2 i x hx'
        · have hlt := (List.getElem?_eq_some_iff.1 hx').1
          have hie : i = j := by simp at hlt; omega
          subst hie
          rw [List.getElem?_append_right (by omega), h1, Nat.sub_self] at hx'
          simp at hx'
          subst hx'
          have a0 := hat 0 (by omega)
          have a1 := hat 1 (by omega)
          rw [e0] at a0
          rw [e1] at a1
          exact ⟨v0, v1, by simpa [Addr.add] using a0, a1, hq⟩
    obtain ⟨l, h1, h2⟩ := key len (Nat.le_refl _)
    exact .inr ⟨l, ad, cap, by rw [h1], by omega, h2⟩
theorem slice2_at {α : Type} {Q : α → Value → Value → Prop} {l : List α} {ad : Addr} (h2 : ∀ (i : Nat) (a : α), l[i]? = some a → ∃ v0 v1, W.cell? (ad.add (i * 2)) = some v0 ∧ W.cell? ((ad.add (i * 2)).add 1) = some v1 ∧ Q a v0 v1) (h0 : l ≠ []) :
    ∃ g off, ad = ⟨g, off, none⟩ ∧ ∀ (i : Nat) (a : α), l[i]? = some a → ∃ v0 v1, W.cell? ⟨g, off + i * 2, none⟩ = some v0 ∧ W.cell? ⟨g, off + i * 2 + 1, none⟩ = some v1 ∧ Q a v0 v1 := by
  obtain ⟨x, hx0⟩ : ∃ x, l[0]? = some x := ⟨l[0]'(by cases l; exact absurd rfl h0; simp), List.getElem?_eq_getElem _⟩
  obtain ⟨v0, _, c0, _⟩ := h2 0 x hx0
  have e : ad.add (0 * 2) = ad := by simp [Addr.add]
  rw [e] at c0
  have hsp := spot_none c0
  obtain ⟨bl, of, sp⟩ := ad
  simp only at hsp
  subst hsp
  refine ⟨bl, of, rfl, fun i y hy => ?_⟩
  obtain ⟨w0, w1, d0, d1, hq⟩ := h2 i y hy
  rw [Addr.add_lit] at d0 d1
  rw [Addr.add_lit] at d1
  exact ⟨w0, w1, d0, d1, hq⟩
theorem rows_of {fuel : Nat} {c : Value} {x : DataW H × List MemPlace} (h : DataW.trod enc Tryz.prog W 0 (fun _ => true) true fuel 36 [c] = some x) : ∃ l : List Rw, RR W c l := by
  rcases slice2 (α := Rw) (Q := fun r v0 v1 => v0 = .int .i64 r.1 ∧ v1 = .int .i64 r.2) Tryz.underlying36 (by kernel_rfl) (fun ht => by
    obtain ⟨r, h0, h1⟩ := one_row_of ht
    exact ⟨r, _, _, h0, h1, rfl, rfl⟩) h with rfl | ⟨l, ad, cap, rfl, hc, h2⟩
  · exact ⟨[], .inl ⟨_, _, rfl, rfl⟩⟩
  · refine ⟨l, ?_⟩
    by_cases h0 : l = []
    · subst h0; exact .inl ⟨_, _, rfl, rfl⟩
    · obtain ⟨g, off, rfl, h3⟩ := slice2_at h2 h0
      refine .inr ⟨g, off, cap, rfl, hc, fun i r hr => ?_⟩
      obtain ⟨v0, v1, d0, d1, rfl, rfl⟩ := h3 i r hr
      exact ⟨d0, d1⟩
theorem one_tab_of {n : Nat} {cs : List Value} {x : DataW H × List MemPlace} (ht : DataW.trod enc Tryz.prog W 0 (fun _ => true) true n 43 cs = some x) :
    ∃ (t : Tb) (v0 v1 : Value), cs[0]? = some v0 ∧ cs[1]? = some v1 ∧ v0 = .string t.1 ∧ RR W v1 t.2 := by
  obtain ⟨xs, m, _, hx, hl, hxl, hf⟩ := DataW.trod_struct Tryz.underlying43 ht
  rw [show Tryz.prog.cellsOf 43 = 2 by kernel_rfl] at hl
  match cs, hl with
  | [c0, c1], _ =>
  match xs, hxl with
  | [y0, y1], _ =>
    have h0 : DataW.trod enc Tryz.prog W 0 (fun _ => true) true m 9 (List.take (Tryz.prog.cellsOf 9) (List.drop 0 [c0, c1])) = some y0 := hf 0 _ rfl
    have h1 : DataW.trod enc Tryz.prog W 0 (fun _ => true) true m 36 (List.take (Tryz.prog.cellsOf 36) (List.drop 1 [c0, c1])) = some y1 := hf 1 _ rfl
    rw [one_str] at h0
    rw [one_rows] at h1
    obtain ⟨z, e0, _, _⟩ := DataW.trod_string Tryz.underlying9 h0
    injection e0 with e0 _
    obtain ⟨l, hr⟩ := rows_of h1
    exact ⟨(z, l), c0, c1, rfl, rfl, e0, hr⟩
end
def FitsS (W : World) (v : Value) : Prop := ∃ s : List Tb, SR W v s
theorem openedS {H : Type} {enc : TypeId × Value → H} {W : World} {base : Nat} {v : Value} {d : DataW H} {p : List MemPlace} (hv : Value.okWide Tryz.prog W .any base 32 v)
    (h : DataW.Trod enc Tryz.prog W 0 (fun _ => true) true 32 v d p) (hz : (DataW.weights Tryz.prog 32 d).all (· ≤ reachBytes) = true) : FitsS W v := by
  obtain ⟨a, ln, cp, rfl⟩ := okWide_slice Tryz.underlying32 hv
  obtain ⟨fuel, hf⟩ := h
  rcases slice2 (α := Tb) (Q := fun t v0 v1 => v0 = .string t.1 ∧ RR W v1 t.2) Tryz.underlying32 (by kernel_rfl) (fun ht => one_tab_of ht) hf with e | ⟨l, ad, cap, e, hc, h2⟩
  · rw [e]; exact ⟨[], .inl ⟨_, _, rfl, rfl⟩⟩
  · rw [e]
    refine ⟨l, ?_⟩
    by_cases h0 : l = []
    · subst h0; exact .inl ⟨_, _, rfl, rfl⟩
    · obtain ⟨g, off, rfl, h3⟩ := slice2_at h2 h0
      refine .inr ⟨g, off, cap, rfl, hc, fun i r hr => ?_⟩
      obtain ⟨v0, v1, d0, d1, rfl, hr1⟩ := h3 i r hr
      exact ⟨d0, v1, d1, hr1⟩
end Go.Proofs.YtjloookjlnmgdaaGreatDoor
