/- Crd Dq -/
import Derived.Test.YtjmmninopagpjaaGreatDoorG15
import Derived.Test.YtjmmninopagpjaaGreatDoorTie
import Derived.Test.YtjmmninopagpjaaGreatDoorCards
import Derived.HandedShaped
import Derived.Handed
import Derived.Lay
import Derived.LaidMore
import Derived.SevenTiedAt
import Derived.Shelf.Vars
import Derived.SizedLaws
import Derived.ChangeOld
import Derived.Carry
import Derived.Test.YtjmmninopagpjaaGreatDoorG32
import Derived.Lib.LaidU8
import Derived.Stop.LaidErr
import Derived.Test.YtjmmninopagpjaaGreatDoorG1
set_option linter.unusedSimpArgs false
set_option linter.unusedVariables false
namespace Go.Proofs.YtjmmninopagpjaaGreatDoor
set_option linter.unusedSimpArgs false
open Go.ChangeShapes Go.WideShapes Go.ChangeAt Go.RowKit
set_option maxRecDepth 100000
set_option linter.unusedVariables false

theorem the_word {W : World} (h : W.ShapedOpen Tryz.prog) : ∃ m,Wd m W :=
 cell_of_shapedOpen_int (g := 1) (zero := #[.int .i64 0]) (t := 3) h (of_decide_eq_true (by kernel_rfl)) (by kernel_rfl) rfl (by kernel_rfl) (by kernel_rfl) Tryz.underlying3

theorem returns_laid {H : Type} {enc : TypeId × Value → H} {a : Assume} {C : Checked} {os : Os} {f : FuncId} {fn : Func} {s : ChangeSpec} {conds : List PathCond} {apart fresh handsOn again : Bool} {laid : List (String × DataW Unit)}
  (hpl : (laid.all fun x => x.2.handleName?.isNone) = true)
  (own : ownKnob C.prog.godebug = none) (started : os.Started) (noInit : C.prog.inits.idxOf? f = none) (hfn : C.prog.funcs[f]? = some fn)
  (witness : ∃ (w : World) (tape : Tape) (i : Input),w.os = os ∧ (w.forCall tape i).Shaped C.prog ∧ i.vars = [] ∧ Input.okWide C.prog (w.forCall tape i) .any w.heap.size f i ∧
   ((s.pre enc C.prog fn conds apart (w.forCall tape i).memory i.args ∧ laidMetH C.prog laid (w.forCall tape i).memory) ∧ sizedMet enc C.prog fn (OpenSpec.ofChange s) apart (w.forCall tape i).memory i.args) ∧ a.holds C.prog (lone (Frame.enter C.prog f i.args .normal) [] (w.forCall tape i)))
  (contract : ∀ (W : World) (base : Nat) (args : Array Value) (ds gs : List (DataW H)) (before : List MemPlace),
   (∀ (j : Nat) t v,fn.params[j]? = some t → args[j]? = some v → Value.okWide C.prog W .any base t v) →
   DataW.Whole enc C.prog fn.params.toList s.vars apart W args.toList ds gs before →
   conds.all (PathCond.test C.prog ⟨fn.params.toList,ds,s.plain.varTypes C.prog,gs⟩) = true →
   (DataW.weightsEach C.prog (fn.params.toList ++ s.plain.varTypes C.prog) (ds ++ gs)).all (· ≤ reachBytes) = true →
   W.ShapedOpen C.prog ∧ laidMet C.prog laid W →
   a.holds C.prog (lone (Frame.enter C.prog f args .normal) [] W) →
   Calls C.prog f args W fun e W' => ∃ v,e = .returned v ∧ s.post enc C.prog fn apart fresh handsOn again W args v W') :
  ReturnsInHanded a C os f .any (fun w args => (s.pre enc C.prog fn conds apart w args ∧ laidMetH C.prog laid w) ∧ sizedMet enc C.prog fn (OpenSpec.ofChange s) apart w args) (s.post enc C.prog fn apart fresh handsOn again) := by
 refine returnsInHanded_of_calls own started noInit witness ?_
 intro w tape i _ hsh _ hok hpre hholds
 obtain ⟨_,_,_,fn',hfn',_,_,_,_,hval⟩ := hok
 obtain rfl : fn' = fn := Option.some.inj (hfn'.symm.trans hfn)
 obtain ⟨⟨⟨ds,gs,before,hw,hc⟩,hx⟩,hz⟩ := hpre
 rw [MakeChecks.laidMetH_plain _ _ _ hpl] at hx
 refine (contract (w.forCall tape i) w.heap.size i.args ds gs before hval (DataW.Whole.of_heap (w' := w.forCall tape i) (by rfl) hw) hc (hz.weights hw) ⟨hsh,laidMet.of_heap (w := (w.forCall tape i).memory) (w' := w.forCall tape i) rfl hx⟩ hholds).mono fun e W' ⟨v,he,hp⟩ => ?_
 subst he
 exact ChangeSpec.post_blind hp

theorem form_cells {W : World} {fuel : Nat} {cs : List Value} {p : List MemPlace} {k : Int} {b : Bool} {s : List UInt8} (h : DataW.trod (fun _ => ()) Tryz.prog W 0 (fun _ => true) false fuel 107 cs = some (.agg [.lit (.int .i64 k),.lit (.bool b),.lit (.string s)],p)) :
  cs = [.int .i64 k,.bool b,.string ⟨s.toArray⟩] := by
 have hu := Tryz.underlying107
 have hct : Tryz.prog.cellsOf 107 = 3 := by kernel_rfl
 have c3 : Tryz.prog.cellsOf 3 = 1 := by kernel_rfl
 have c4 : Tryz.prog.cellsOf 4 = 1 := by kernel_rfl
 have c9 : Tryz.prog.cellsOf 9 = 1 := by kernel_rfl
 obtain ⟨xs,n,rfl,hx,hl,hxl,hall⟩ := DataW.trod_struct hu h
 rw [hct] at hl
 have hxs : xs.map (·.1) = [.lit (.int .i64 k),.lit (.bool b),.lit (.string s)] := by
  have := congrArg Prod.fst hx
  simpa using this.symm
 match cs,hl with
 | [a0,a1,a2],_ =>
  match xs,hxl,hxs,hall with
  | [y0,y1,y2],_,hxs,hall =>
   have h0 : DataW.trod (fun _ => ()) Tryz.prog W 0 (fun _ => true) false n 3 ((([a0,a1,a2] : List Value).drop 0).take (Tryz.prog.cellsOf 3)) = ([y0,y1,y2] : List (DataW Unit × List MemPlace))[0]? := hall 0 _ rfl
   have h1 : DataW.trod (fun _ => ()) Tryz.prog W 0 (fun _ => true) false n 4 ((([a0,a1,a2] : List Value).drop 1).take (Tryz.prog.cellsOf 4)) = ([y0,y1,y2] : List (DataW Unit × List MemPlace))[1]? := hall 1 _ rfl
   have h2 : DataW.trod (fun _ => ()) Tryz.prog W 0 (fun _ => true) false n 9 ((([a0,a1,a2] : List Value).drop 2).take (Tryz.prog.cellsOf 9)) = ([y0,y1,y2] : List (DataW Unit × List MemPlace))[2]? := hall 2 _ rfl
   rw [c3] at h0
   rw [c4] at h1
   rw [c9] at h2
   obtain ⟨y00,y01⟩ := y0
   obtain ⟨y10,y11⟩ := y1
   obtain ⟨y20,y21⟩ := y2
   obtain ⟨z,e0,f0,_⟩ := DataW.trod_int (x := (y00,y01)) Tryz.underlying3 h0
   obtain ⟨q,e1,f1⟩ := DataW.trod_bool (x := (y10,y11)) Tryz.underlying4 h1
   obtain ⟨r,e2,f2,_⟩ := DataW.trod_string (x := (y20,y21)) Tryz.underlying9 h2
   injection f0 with f0 _
   injection f1 with f1 _
   injection f2 with f2 _
   subst f0 f1 f2
   simp only [List.map_cons,List.map_nil,List.cons.injEq,and_true,DataW.lit.injEq,Lit.int.injEq,Lit.bool.injEq,Lit.string.injEq,true_and,List.drop_zero,List.drop_succ_cons,List.take_succ_cons,List.take_zero] at hxs e0 e1 e2
   obtain ⟨g0,g1,g2⟩ := hxs
   subst e0 e1 e2 g0 g1 g2
   rfl
theorem forms_laid {W : World} (h : Lib.VarReads Tryz.prog W "pontoon/state.forms" Rows.laid_pontoon_state_forms) : ∃ t fr, W.heap[0]? = some (.cells formCells t fr) := by
 obtain ⟨g,t,cs,fuel,p,hg,hty,hvar,hd⟩ := h
 obtain rfl := Option.some.inj ((show Tryz.prog.globalNamed "pontoon/state.forms" = some 0 by kernel_rfl).symm.trans hg)
 obtain rfl := Option.some.inj ((show (Tryz.prog.globals[0]?).map (·.type) = some 108 by kernel_rfl).symm.trans hty)
 have hc51 : Tryz.prog.cellsOf 107 = 3 := by kernel_rfl
 have hc52 : Tryz.prog.cellsOf 108 = 21 := by kernel_rfl
 have hel := fun i hi => Lib.array_elem Tryz.underlying108 hd i hi
 rw [hc51] at hel
 have hcl : cs.toList.length = 21 := by
  cases fuel with
  | zero => simp [DataW.trod] at hd
  | succ fuel =>
   simp only [DataW.trod,Tryz.underlying108,hc51,hc52] at hd
   split at hd
   ·rename_i hl; simpa using hl
   ·cases hd
 have key : ∀ (i : Nat) (hi : i < 7) (k : Int) (b : Bool) (s : List UInt8),(match Rows.laid_pontoon_state_forms (H := Unit) with | .agg ds => ds[i]? | _ => none) = some (.agg [.lit (.int .i64 k),.lit (.bool b),.lit (.string s)]) → (cs.toList.drop (i * 3)).take 3 = [.int .i64 k,.bool b,.string ⟨s.toArray⟩] := by
  intro i hi k b s hs
  obtain ⟨f',d,q,h1,h2⟩ := hel i hi
  have : some d = some (DataW.agg [.lit (.int .i64 k),.lit (.bool b),.lit (.string s)]) := h1.symm.trans hs
  injection this with this
  subst this
  exact form_cells h2
 have k0 := key 0 (by decide) _ _ _ rfl
 have k1 := key 1 (by decide) _ _ _ rfl
 have k2 := key 2 (by decide) _ _ _ rfl
 have k3 := key 3 (by decide) _ _ _ rfl
 have k4 := key 4 (by decide) _ _ _ rfl
 have k5 := key 5 (by decide) _ _ _ rfl
 have k6 := key 6 (by decide) _ _ _ rfl
 have hcs : cs.toList = formsC.flatMap fmCells := by
  have split7 : cs.toList = (cs.toList.drop (0 * 3)).take 3 ++ ((cs.toList.drop (1 * 3)).take 3 ++ ((cs.toList.drop (2 * 3)).take 3 ++ ((cs.toList.drop (3 * 3)).take 3 ++ ((cs.toList.drop (4 * 3)).take 3 ++ ((cs.toList.drop (5 * 3)).take 3 ++ (cs.toList.drop (6 * 3)).take 3))))) := by
   generalize cs.toList = L at hcl
   match L,hcl with
   | [_,_,_,_,_,_,_,_,_,_,_,_,_,_,_,_,_,_,_,_,_],_ => rfl
  rw [split7,k0,k1,k2,k3,k4,k5,k6]
  rfl
 have hce : cs = formCells := by
  apply Array.toList_inj.1
  rw [hcs]
  rfl
 subst hce
 unfold World.var? at hvar
 rw [hg] at hvar
 simp only [Option.bind_some] at hvar
 split at hvar
 ·rename_i c t fr he
  injection hvar with hvar
  subst hvar
  exact ⟨t,fr,he⟩
 ·cases hvar
theorem star_err : "*" ++ "errors.errorString" = "*errors.errorString" := by decide
theorem row_err (u : TypeId) (h : Tryz.prog.typeName? 3 u = some "*errors.errorString") : u = 315 :=
 typeName_ptr_named (nm := "errors.errorString") (by rw [star_err]; kernel_rfl) (by kernel_rfl) (by decide) u (by rw [star_err]; exact h)
theorem wq_laid {W : World} (hs : W.ShapedOpen Tryz.prog) (hL : laidMet Tryz.prog Rows.transNilRow.laid W) : ∃ m,Wq m W := by
 obtain ⟨m,hm⟩ := the_word hs
 refine ⟨m,hm,?_,?_,?_⟩
 ·have h3 : laidMet Tryz.prog (("internal/strconv.uint64pow10", Lib.tabData .u64 Lib.pow10Tab) :: _) W := hL.tail.tail
  exact Lib.tabIs_of_head (show Tryz.prog.globalNamed "internal/strconv.uint64pow10" = some 2 by kernel_rfl) (by kernel_rfl) Tryz.underlying255 Tryz.underlying164 (by kernel_rfl) (by kernel_rfl) h3
 ·exact forms_laid (Lib.laidMet.reads hL (by simp [Rows.transNilRow]))
 ·obtain ⟨a, s, hv, _⟩ := laid_sentinel (hL.tail.tail.tail.tail.tail) (show Tryz.prog.globalNamed "strconv.ErrSyntax" = some 3 by kernel_rfl) (by kernel_rfl) Tryz.underlying217 row_err Tryz.underlying315 Tryz.underlying317 rfl rfl Tryz.underlying9 (by kernel_rfl) (by kernel_rfl)
  refine ⟨_, World.var?_cell (show Tryz.prog.globalNamed "strconv.ErrSyntax" = some 3 by kernel_rfl) hv 0, .inr ⟨_, _, rfl⟩⟩
end Go.Proofs.YtjmmninopagpjaaGreatDoor
