/- Package line, its code: what a line is in memory; made, given, the tests, slices.IndexFunc. Conditions: how many. -/
import Derived.Test.YtochjbmighijgaaLnb
import Derived.Deep.LoopGhost
import Derived.Deep.AppendLies
import Derived.Deep.RegionWith
import Derived.BigQuiet
namespace Go.Proofs.Ytochjbmighijgaa.LN
open Go.ChangeShapes Go.WideShapes Go.ChangeAt Go.RowKit
open Go.Proofs.Ytochjbmighijgaa.SL Go.Proofs.Ytochjbmighijgaa.RW
set_option maxRecDepth 100000
set_option linter.unusedVariables false
set_option linter.unusedSimpArgs false

abbrev TW : TypeId := 96
abbrev TL : TypeId := 94
theorem info2 (T : TypeId) (h : (Try.prog.info? T).bind (fun i => if i.size = 2 ∧ i.bytes = 16 then i.zero else none) = some (.agg #[nV 0, nV 0])) : ∃ i, Try.prog.info? T = some i ∧ i.zero = some (.agg #[nV 0, nV 0]) ∧ i.size = 2 ∧ i.bytes = 16 := by
  cases hi : Try.prog.info? T with
  | none => rw [hi] at h; cases h
  | some j =>
    rw [hi] at h
    by_cases hc : j.size = 2 ∧ j.bytes = 16
    · simp [hc] at h
      exact ⟨j, rfl, h, hc.1, hc.2⟩
    · simp [hc] at h
theorem ptW : PT 92 96 := ⟨Try.underlying92, info2 _ (by kernel_rfl)⟩
/-- at block a a line: how many there may be, those who wait -/
structure LC (B : Nat) (w : World) (a most : Nat) (v : Value) (l : List Wt) : Prop where
  bk : Bk w a 94 #[ptr a, nV (most : Int), v]
  ws : WS 96 B w v l
  le : l.length ≤ most
  ma : most ≤ 10000
  ab : B ≤ a
/-- a line of the law's own -/
def LN (B : Nat) (w : World) (a most : Nat) (l : List Wt) : Prop := ∃ v, LC B w a most v l
section
variable {B : Nat} {w w' : World} {a most : Nat} {v : Value} {l : List Wt}
theorem LC.keep (h : LC B w a most v l) (e : w'.heap[a]? = w.heap[a]?) (hk : ∀ g, v.ownBlock = some g → w'.heap[g]? = w.heap[g]?) : LC B w' a most v l := ⟨h.bk.heap e, h.ws.keep hk, h.le, h.ma, h.ab⟩
theorem LC.below (h : LC B w a most v l) (hb : Below w.heap.size w w') : LC B w' a most v l := h.keep (hb.block a h.bk.lt) fun g hg => hb.block g (h.ws.lt g hg).2
theorem LC.mono (h : LC B w a most v l) {B' : Nat} (hB : B' ≤ B) : LC B' w a most v l := ⟨h.bk, h.ws.mono hB, h.le, h.ma, Nat.le_trans hB h.ab⟩
theorem LN.below (h : LN B w a most l) (hb : Below w.heap.size w w') : LN B w' a most l := by
  obtain ⟨v, h⟩ := h; exact ⟨v, h.below hb⟩
theorem LN.mono (h : LN B w a most l) {B' : Nat} (hB : B' ≤ B) : LN B' w a most l := by
  obtain ⟨v, h⟩ := h; exact ⟨v, h.mono hB⟩
theorem LC.ne (h : LC B w a most v l) (g : Nat) (hg : v.ownBlock = some g) : g ≠ a := by
  obtain ⟨cur, hc⟩ := h.ws.ty g hg
  rintro rfl
  have hb := h.bk
  unfold Bk at hb
  rw [hc] at hb
  injection hb with hb
  injection hb with _ hb
  exact absurd hb (by decide)
end
/-- what is not there: nil, or a line that New did not give -/
def Nb (w : World) (v : Value) : Prop := v = .pointer none ∨ ∃ b, v = ptr b ∧ w.cell? ⟨b, 0, none⟩ = some (.pointer none)
theorem Nb.below {w w' : World} {v : Value} (h : Nb w v) (hb : Below w.heap.size w w') : Nb w' v := by
  rcases h with h | ⟨b, h1, h2⟩
  · exact .inl h
  · exact .inr ⟨b, h1, (hb.cell (p := ⟨b, 0, none⟩) (World.block_lt_of_cell? _ _ h2)).trans h2⟩
def RdP (r : Value) (w : World) (e : Ending) (w' : World) : Prop := e = .returned r ∧ Below w.heap.size w w'
theorem binfo : ∃ j, Try.prog.info? 94 = some j := Option.isSome_iff_exists.1 (by kernel_rfl)
theorem eql_same (w : World) (a : Addr) : (binOp .eql 63 (.pointer (some a)) (.pointer (some a))).run Try.prog w = .ok (.bool true) w := by
  obtain ⟨j, hj⟩ := binfo
  exact run_eql_ptr_same (P := Try.prog) w a Try.underlying63 hj
theorem eql_none (w : World) (a : Addr) : (binOp .eql 63 (.pointer none) (.pointer (some a))).run Try.prog w = .ok (.bool false) w := by
  have h : ∀ d : Nat, (Op.equalIn (d + 1) 63 (.pointer none) (.pointer (some a))).run Try.prog w = .ok false w := fun d => by
    simp [Op.equalIn, run_underlying Try.underlying63]
  simp only [binOp]
  simp [Op.equal, Op.maxDepth, h 9999]
theorem given_yes (w : World) (a : Nat) (h : w.cell? ⟨a, 0, none⟩ = some (ptr a)) : Calls Try.prog 46 #[ptr a] w fun e w' => e = .returned (.bool true) ∧ w = w' := by
  have he := fun w => LN.eql_same w ⟨a, 0, none⟩
  go_enter Try.func46, Try.ntmps46
  go_wp2
  go_ret
  exact ⟨rfl, rfl⟩
theorem given_no {w : World} {v : Value} (h : Nb w v) : Calls Try.prog 46 #[v] w fun e w' => e = .returned (.bool false) ∧ w = w' := by
  rcases h with rfl | ⟨b, rfl, h⟩
  · go_enter Try.func46, Try.ntmps46
    go_wp2
    go_ret
    exact ⟨rfl, rfl⟩
  · have he := fun w => LN.eql_none w ⟨b, 0, none⟩
    go_enter Try.func46, Try.ntmps46
    go_wp2
    go_ret
    exact ⟨rfl, rfl⟩
theorem made_any (w : World) (n : Int) (v : Value) (hv : ∃ a k c, v = .slice a k c) :
    Calls Try.prog 58 #[nV n, v] w fun e w' => e = .returned (ptr w.heap.size) ∧ Bk w' w.heap.size 94 #[ptr w.heap.size, nV n, v] ∧ Below w.heap.size w w' := by
  obtain ⟨a, k, c, rfl⟩ := hv
  obtain ⟨g, hg⟩ : ∃ g, w.heap.size = g := ⟨_, rfl⟩
  have hG := Lib.hid hg
  go_enter Try.func58, Try.ntmps58
  go_wp2
  go_ret
  subst hg
  refine ⟨rfl, ?_, ?_⟩
  · exact Bk.new w 94 #[ptr w.heap.size, nV n, .slice a k c]
  · exact (Below.refl _ _).alloc (Nat.le_refl _) _
abbrev pV (p : Wt) : Value := .agg #[nV p.1, nV p.2]
section
variable {w : World} {b : Nat} {x : Int}
theorem leavec_any (h : Bk w b 3 #[nV x]) (y : Wt) : Calls Try.prog 52 #[pV y, ptr b] w (RdP (.bool (isId x y)) w) := by
  have hl := h.lt
  have c1 : ∀ t cs, (w.alloc (.cells cs t)).cell? ⟨b, 0, none⟩ = some (nV x) := fun t cs => (h.alloc _).cell 0
  obtain ⟨y1, y2⟩ := y
  obtain ⟨R, hR⟩ : ∃ R, isId x (y1, y2) = R := ⟨_, rfl⟩
  rw [hR]
  have HR : (y1 == x) = R := by rw [← hR]; unfold isId; simp only; rw [Bool.eq_iff_iff, beq_iff_eq, decide_eq_true_iff]
  have HR2 : decide (y1 = x) = R := hR
  clear h hR
  go_enter Try.func52, Try.ntmps52
  go_wp2
  go_ret
  exact ⟨by first | rfl | rw [← HR] | rw [← HR2], (Below.refl _ _).alloc (Nat.le_refl _) _⟩
theorem placec_any (h : Bk w b 3 #[nV x]) (y : Wt) : Calls Try.prog 61 #[pV y, ptr b] w (RdP (.bool (isId x y)) w) := by
  have hl := h.lt
  have c1 : ∀ t cs, (w.alloc (.cells cs t)).cell? ⟨b, 0, none⟩ = some (nV x) := fun t cs => (h.alloc _).cell 0
  obtain ⟨y1, y2⟩ := y
  obtain ⟨R, hR⟩ : ∃ R, isId x (y1, y2) = R := ⟨_, rfl⟩
  rw [hR]
  have HR : (y1 == x) = R := by rw [← hR]; unfold isId; simp only; rw [Bool.eq_iff_iff, beq_iff_eq, decide_eq_true_iff]
  have HR2 : decide (y1 = x) = R := hR
  clear h hR
  go_enter Try.func61, Try.ntmps61
  go_wp2
  go_ret
  exact ⟨by first | rfl | rw [← HR] | rw [← HR2], (Below.refl _ _).alloc (Nat.le_refl _) _⟩
theorem latec_any (h : Bk w b 3 #[nV x]) (y : Wt) : Calls Try.prog 55 #[pV y, ptr b] w (RdP (.bool (isLate x y)) w) := by
  have hl := h.lt
  have c1 : ∀ t cs, (w.alloc (.cells cs t)).cell? ⟨b, 0, none⟩ = some (nV x) := fun t cs => (h.alloc _).cell 0
  obtain ⟨y1, y2⟩ := y
  obtain ⟨R, hR⟩ : ∃ R, isLate x (y1, y2) = R := ⟨_, rfl⟩
  rw [hR]
  have HR2 : decide (y2 ≤ x) = R := hR
  clear h hR
  go_enter Try.func55, Try.ntmps55
  go_wp2
  go_ret
  exact ⟨by first | rfl | rw [← HR2], (Below.refl _ _).alloc (Nat.le_refl _) _⟩
end
/-- a test that is a function: what it answers, in every world to come -/
structure Test (g : Nat) (cb : Array Value) (q : Wt → Bool) (w : World) : Prop where
  enter : ∀ args W, (callFunc g args).run Try.prog W = .ok (.enter g args) W
  says : ∀ W, Below w.heap.size w W → ∀ y, Calls Try.prog g (#[pV y] ++ cb) W (RdP (.bool (q y)) W)
theorem Test.below {g : Nat} {cb : Array Value} {q : Wt → Bool} {w w' : World} (h : Test g cb q w) (hb : Below w.heap.size w w') : Test g cb q w' := ⟨h.enter, fun W hW y => h.says W (hb.trans (hW.mono hb.size)) y⟩
set_option maxHeartbeats 2000000 in
theorem index_any {T : TypeId} {B : Nat} {w : World} {v : Value} {l : List Wt} (hv : WS T B w v l) {g : Nat} {cb : Array Value} {q : Wt → Bool} (ht : Test g cb q w) (hl : l.length ≤ 1000000) :
    Calls Try.prog 60 #[v, .func (.func g) #[] cb] w (RdP (nV (oI (l.findIdx? q))) w) := by
  obtain ⟨va, vc, rfl⟩ := hv.form
  obtain ⟨n, hn⟩ : ∃ n, l.length = n := ⟨_, rfl⟩
  rw [hn] at hv hl ⊢
  have HV := Lib.hid hv
  have HT := Lib.hid ht
  have HN := Lib.hid hn
  have HL := Lib.hid hl
  have henter := ht.enter
  clear hv ht hn hl
  go_enter Try.func60, Try.ntmps60
  go_wp2
  go_loopg [8] n (fun gk u8 wx => ∃ j : Nat, u8 = .int .i64 (j : Int) ∧ j + gk = n ∧ (∀ t p, t < j → l[t]? = some p → q p = false) ∧ Below w.heap.size w wx)
  case atStart => exact ⟨0, rfl, by omega, fun t p ht => absurd ht (Nat.not_lt_zero _), Below.refl _ _⟩
  case round =>
    obtain ⟨j, rfl, hj, hq, hb⟩ := hrel
    have HB := Lib.hid hb
    have HQ := Lib.hid hq
    clear hb hq
    cases gk with
    | zero =>
      have l1 : ¬ ((j : Int) < (n : Int)) := by omega
      have hjn : j = n := by omega
      have HR : Hid (l.findIdx? q = none) := Lib.hid (List.findIdx?_eq_none_iff.2 fun p hp => by
        obtain ⟨t, ht, rfl⟩ := List.getElem_of_mem hp
        exact HQ.out t _ (by have := HN.out; omega) (List.getElem?_eq_getElem ht))
      clear hj hjn
      go_wp2
      go_ret
      exact ⟨by rw [HR.out]; rfl, HB.out⟩
    | succ g1 =>
      have hjl : j < l.length := by have := HN.out; omega
      obtain ⟨gb, off, cap, he, hc, hx⟩ := (HV.out.below HB.out).inv (by omega)
      rw [HN.out] at he
      injection he with e1 _ e3
      subst e1 e3
      obtain ⟨y, hy⟩ : ∃ y, l[j] = y := ⟨_, rfl⟩
      have hyj : l[j]? = some y := by rw [List.getElem?_eq_getElem hjl, hy]
      obtain ⟨x0, x1⟩ := hx j y hyj
      have HC := Lib.hid (HT.out.says wr HB.out y)
      have l0 : (0 : Int) ≤ (j : Int) := by omega
      have l1 : (j : Int) < (n : Int) := by omega
      obtain ⟨j1, hj1⟩ : ∃ j1, j + 1 = j1 := ⟨_, rfl⟩
      have wk : IntKind.i64.wrap ((j : Int) + 1) = (j1 : Int) := by rw [show (j : Int) + 1 = (j1 : Int) by omega]; exact IntWalk.i64_in _ (by have := HL.out; omega)
      have HJ : Hid (j1 + g1 = n) := Lib.hid (by omega)
      have HY := Lib.hid hyj
      have HJ1 := Lib.hid hj1
      obtain ⟨yi, yt⟩ := y
      simp only at x0 x1
      cases hqy : q (yi, yt) with
      | true =>
        rw [hqy] at HC
        have HR : Hid (l.findIdx? q = some j) := Lib.hid (List.findIdx?_eq_some_iff_getElem.2 ⟨hjl, by rw [hy]; exact hqy, fun t ht => by
          have := HQ.out t l[t] ht (List.getElem?_eq_getElem (by omega))
          simp [this]⟩)
        clear hx hc hy hyj hjl hj hj1 hqy
        go_wp2_with fail
        refine HC.out.mono ?_
        rintro e w2 ⟨rfl, hb2⟩
        have HB2 := Lib.hid (HB.out.trans (hb2.mono HB.out.size))
        clear hb2
        go_wp2
        go_ret
        exact ⟨by rw [HR.out]; rfl, HB2.out⟩
      | false =>
        rw [hqy] at HC
        have HQY := Lib.hid hqy
        clear hx hc hy hyj hjl hj hj1 hqy
        go_wp2_with fail
        refine HC.out.mono ?_
        rintro e w2 ⟨rfl, hb2⟩
        have HB2 := Lib.hid (HB.out.trans (hb2.mono HB.out.size))
        clear hb2
        go_wp2
        go_roundg g1
        case measure => exact Nat.lt_succ_self _
        case rel => exact ⟨j1, rfl, HJ.out, fun t p ht hp => by
          by_cases htj : t = j
          · subst htj
            rw [HY.out] at hp
            injection hp with hp
            rw [← hp]; exact HQY.out
          · exact HQ.out t p (by have := HJ1.out; omega) hp, HB2.out⟩
end Go.Proofs.Ytochjbmighijgaa.LN
