/- Fixed calls of package back, as plain facts; what their arguments are in memory. Condition: none. -/
import Derived.Test.YtnjifbgjglniaaaBkv
import Derived.Test.YtnjifbgjglniaaaBkwb
namespace Go.Proofs.Ytnjifbgjglniaaa.BK
open Go.Proofs.Ytnjifbgjglniaaa
open Go.ChangeShapes Go.WideShapes Go.ChangeAt Go.RowKit
set_option linter.unusedVariables false
set_option linter.unusedSimpArgs false
set_option maxRecDepth 100000

def tZ : Tell := { kind := 90, status := 73 }
def tD : Tell := { kind := 68, vals := [[97, 98], []], null := [false, true] }
def tE : Tell := { kind := 69, keys := [[77]], vals := [[120]] }
def t1 : Tell := { kind := 49 }
def tT : Tell := { kind := 90, status := 84 }
def tS : Tell := { kind := 83 }
theorem k_Z : decP 90 [73] = (tZ, 0) := by decide
theorem k_X : decP 90 [88] = ({}, 4) := by decide
theorem k_Q : decP 81 [] = ({}, 5) := by decide
theorem r_D : RightP tD := ⟨⟨by decide, by decide, by decide, by decide, by decide, by decide, by decide, by decide, by decide, by decide, by decide, by decide, by decide, by decide, by decide⟩, by decide⟩
theorem r_E : RightP tE := ⟨⟨by decide, by decide, by decide, by decide, by decide, by decide, by decide, by decide, by decide, by decide, by decide, by decide, by decide, by decide, by decide⟩, by decide⟩
theorem r_1 : RightP t1 := ⟨⟨by decide, by decide, by decide, by decide, by decide, by decide, by decide, by decide, by decide, by decide, by decide, by decide, by decide, by decide, by decide⟩, by decide⟩
theorem r_T : RightP tT := ⟨⟨by decide, by decide, by decide, by decide, by decide, by decide, by decide, by decide, by decide, by decide, by decide, by decide, by decide, by decide, by decide⟩, by decide⟩
theorem r_Z : RightP tZ := ⟨⟨by decide, by decide, by decide, by decide, by decide, by decide, by decide, by decide, by decide, by decide, by decide, by decide, by decide, by decide, by decide⟩, by decide⟩
theorem encP_yes {a : Tell} (h : RightP a) : encP a = ((a.kind, body a), 0) := by unfold encP; rw [if_pos h]
theorem k_D : encP tD = ((68, [0, 2, 0, 0, 0, 2, 97, 98, 255, 255, 255, 255]), 0) := by rw [encP_yes r_D]; decide
theorem k_E : encP tE = ((69, [77, 120, 0, 0]), 0) := by rw [encP_yes r_E]; decide
theorem k_S : encP tS = ((0, []), 4) := by
  unfold encP
  rw [if_neg]
  intro h
  have := h.1.one (by decide)
  simp [tS] at this
theorem k_B : bytesP [t1, tT] = ([49, 0, 0, 0, 4, 90, 0, 0, 0, 5, 84], 0) := by
  rw [bytesP_yes (by intro t ht; simp at ht; rcases ht with rfl | rfl; exact r_1; exact r_T)]
  decide
theorem few_of (a : Tell) (h : a.keys.length ≤ 2 ∧ a.vals.length ≤ 2 ∧ a.null.length ≤ 2 ∧ a.text.length ≤ 2 ∧ (∀ t ∈ a.keys, t.length ≤ 2) ∧ (∀ t ∈ a.vals, t.length ≤ 2)) : Few a :=
  ⟨by omega, by omega, by omega, by omega, fun t ht => by have := h.2.2.2.2.1 t ht; omega, fun t ht => by have := h.2.2.2.2.2 t ht; omega⟩
theorem f_D : Few tD := few_of _ (by decide)
theorem f_E : Few tE := few_of _ (by decide)
theorem f_1 : Few t1 := few_of _ (by decide)
theorem f_T : Few tT := few_of _ (by decide)
theorem f_S : Few tS := few_of _ (by decide)
theorem f_Z : Few tZ := few_of _ (by decide)

theorem AR.grow {w w' : World} {v : Value} {a : Tell} (h : AR (fun b => b < w.heap.size) w v a) (hb : Below w.heap.size w w') : AR (fun b => b < w'.heap.size) w' v a :=
  h.step (fun b hk => hb.block b hk) (fun b hk => Nat.lt_of_lt_of_le hk hb.size)
theorem LRgrow {w w' : World} {v : Value} {l : List Value} (h : LR (fun b => b < w.heap.size) w v l) (hb : Below w.heap.size w w') : LR (fun b => b < w'.heap.size) w' v l :=
  h.step (fun b hk => hb.block b hk) (fun b hk => Nat.lt_of_lt_of_le hk hb.size)
theorem grow_ {w w1 w2 : World} (h : Below w.heap.size w w1) (k : Below w1.heap.size w1 w2) : Below w.heap.size w w2 := h.trans (k.mono h.size)
theorem bel_alloc (w : World) (o : Obj) : Below w.heap.size w (w.alloc o) := (Below.refl _ _).alloc (Nat.le_refl _) _
theorem LRlit (w : World) (t : TypeId) (cs : Array Value) (hz : cs.size ≤ maxLen) : LR (fun b => b < (w.alloc (.cells cs t)).heap.size) (w.alloc (.cells cs t)) (.slice (some ⟨w.heap.size, 0, none⟩) cs.toList.length cs.toList.length) cs.toList := by
  refine ⟨_, _, rfl, Nat.le_refl _, by simpa using hz, fun _ => ⟨w.heap.size, 0, rfl, by simp, fun j x hx => ?_⟩⟩
  rw [Nat.zero_add, (Blk.new w t cs).cell j]
  simpa using hx
theorem ar_own {b0 : Nat} {w : World} {v : Value} {a : Tell} (h : AR (fun b => b0 ≤ b ∧ b < w.heap.size) w v a) : AR (fun b => b < w.heap.size) w v a := h.step (fun _ _ => rfl) (fun _ h => h.2)
theorem ar_flat (w : World) (a : Tell) (h1 : a.keys = []) (h2 : a.vals = []) (h4 : a.null = []) :
    AR (fun b => b < w.heap.size) w (.agg (tellV a (.slice none 0 0) (.slice none 0 0) (.slice none 0 0))) a :=
  ⟨_, _, _, rfl, by rw [h1]; exact LR.nil _ _, by rw [h2]; exact LR.nil _ _, by rw [h4]; exact LR.nil _ _⟩
theorem ar_D (w : World) : AR (fun b => b < ((w.alloc (.cells #[.string ⟨#[97, 98]⟩, .string ⟨#[]⟩] 9)).alloc (.cells #[.bool false, .bool true] 4)).heap.size) ((w.alloc (.cells #[.string ⟨#[97, 98]⟩, .string ⟨#[]⟩] 9)).alloc (.cells #[.bool false, .bool true] 4))
    (.agg #[.int .u8 68, .int .u8 0, .string ⟨#[]⟩, .slice none 0 0, .slice (some ⟨w.heap.size, 0, none⟩) 2 2, .slice (some ⟨w.heap.size + 1, 0, none⟩) 2 2, .int .i64 0, .int .i64 0]) tD := by
  have z1 : (w.alloc (.cells #[.string ⟨#[97, 98]⟩, .string ⟨#[]⟩] 9)).heap.size = w.heap.size + 1 := by simp
  have h1 := LRgrow (LRlit w 9 #[.string ⟨#[97, 98]⟩, .string ⟨#[]⟩] (by decide)) (bel_alloc _ (.cells #[.bool false, .bool true] 4))
  have h2 := LRlit (w.alloc (.cells #[.string ⟨#[97, 98]⟩, .string ⟨#[]⟩] 9)) 4 #[.bool false, .bool true] (by decide)
  rw [z1] at h2
  exact ⟨.slice none 0 0, _, _, rfl, LR.nil _ _, h1, h2⟩
theorem ar_E (w : World) : AR (fun b => b < ((w.alloc (.cells #[.string ⟨#[77]⟩] 9)).alloc (.cells #[.string ⟨#[120]⟩] 9)).heap.size) ((w.alloc (.cells #[.string ⟨#[77]⟩] 9)).alloc (.cells #[.string ⟨#[120]⟩] 9))
    (.agg #[.int .u8 69, .int .u8 0, .string ⟨#[]⟩, .slice (some ⟨w.heap.size, 0, none⟩) 1 1, .slice (some ⟨w.heap.size + 1, 0, none⟩) 1 1, .slice none 0 0, .int .i64 0, .int .i64 0]) tE := by
  have z1 : (w.alloc (.cells #[.string ⟨#[77]⟩] 9)).heap.size = w.heap.size + 1 := by simp
  have h1 := LRgrow (LRlit w 9 #[.string ⟨#[77]⟩] (by decide)) (bel_alloc _ (.cells #[.string ⟨#[120]⟩] 9))
  have h2 := LRlit (w.alloc (.cells #[.string ⟨#[77]⟩] 9)) 9 #[.string ⟨#[120]⟩] (by decide)
  rw [z1] at h2
  exact ⟨_, _, .slice none 0 0, rfl, h1, h2, LR.nil _ _⟩
def cs2 : Array Value := #[.int .u8 49, .int .u8 0, .string ⟨#[]⟩, .slice none 0 0, .slice none 0 0, .slice none 0 0, .int .i64 0, .int .i64 0, .int .u8 90, .int .u8 84, .string ⟨#[]⟩, .slice none 0 0, .slice none 0 0, .slice none 0 0, .int .i64 0, .int .i64 0]
theorem tl_B (w : World) : TL (w.alloc (.cells cs2 28)) (.slice (some ⟨w.heap.size, 0, none⟩) 2 2) [t1, tT] := by
  refine ⟨_, 2, rfl, by decide, by decide, fun _ => ⟨w.heap.size, 0, rfl, by simp, fun k a ha => ?_⟩⟩
  have hb := Blk.new w 28 cs2
  match k, ha with
  | 0, ha =>
    injection ha with ha; subst ha
    refine ⟨.slice none 0 0, .slice none 0 0, .slice none 0 0, fun i x hx => ?_, ar_flat _ _ rfl rfl rfl⟩
    rw [hb.cell]
    match i, hx with
    | 0, hx => exact hx
    | 1, hx => exact hx
    | 2, hx => exact hx
    | 3, hx => exact hx
    | 4, hx => exact hx
    | 5, hx => exact hx
    | 6, hx => exact hx
    | 7, hx => exact hx
    | n + 8, hx => simp [tellV] at hx
  | 1, ha =>
    injection ha with ha; subst ha
    refine ⟨.slice none 0 0, .slice none 0 0, .slice none 0 0, fun i x hx => ?_, ar_flat _ _ rfl rfl rfl⟩
    rw [hb.cell]
    match i, hx with
    | 0, hx => exact hx
    | 1, hx => exact hx
    | 2, hx => exact hx
    | 3, hx => exact hx
    | 4, hx => exact hx
    | 5, hx => exact hx
    | 6, hx => exact hx
    | 7, hx => exact hx
    | n + 8, hx => simp [tellV] at hx
  | n + 2, ha => simp at ha
/-- what comes of a Decode of fixed bytes -/
def DecL (k st c : Int) (r : Tell) (w : World) (e : Ending) (w' : World) : Prop := ∃ A1 c1 A2 c2 A3 c3,
    e = .returned (.tuple #[.agg #[.int .u8 k, .int .u8 st, .string ⟨#[]⟩, .slice A1 0 c1, .slice A2 0 c2, .slice A3 0 c3, .int .i64 0, .int .i64 0], .int .i64 c]) ∧
    AR (fun b => b < w'.heap.size) w' (.agg #[.int .u8 k, .int .u8 st, .string ⟨#[]⟩, .slice A1 0 c1, .slice A2 0 c2, .slice A3 0 c3, .int .i64 0, .int .i64 0]) r ∧ Below w.heap.size w w'
theorem dec_lit (k : UInt8) (n : Int) (s : ByteArray) (r : Tell) (c k2 st : Int) (hk : (k.toNat : Int) = n) (e : decP k s.data.toList = (r, c)) (hs : s.size ≤ 1099511627776)
    (hr : ∀ kv vv nv, tellV r kv vv nv = #[.int .u8 k2, .int .u8 st, .string ⟨#[]⟩, kv, vv, nv, .int .i64 0, .int .i64 0]) (h1 : r.keys = []) (h2 : r.vals = []) (h3 : r.null = []) (w : World) :
    Calls Try.prog 9 #[.agg #[.int .u8 n, .string s]] w (DecL k2 st c r w) := by
  subst hk
  refine (dec_any k s w hs).mono ?_
  rintro e2 w2 ⟨v, g1, g2, g3⟩
  rw [e] at g1 g2
  obtain ⟨kv, vv, nv, rfl, o1, o2, o3⟩ := g2.ex
  rw [h1] at o1
  rw [h2] at o2
  rw [h3] at o3
  obtain ⟨A1, c1, rfl, _, _⟩ := o1.form
  obtain ⟨A2, c2, rfl, _, _⟩ := o2.form
  obtain ⟨A3, c3, rfl, _, _⟩ := o3.form
  rw [hr] at g1 g2
  exact ⟨A1, c1, A2, c2, A3, c3, g1, ar_own g2, g3⟩
theorem enc_lit (a : Tell) (v : Value) (w : World) (f : Few a) (har : AR (fun i => i < w.heap.size) w v a) (k : UInt8) (n : Int) (l : Tx) (s : ByteArray) (c : Int) (hk : (k.toNat : Int) = n) (hs : ba l = s) (e : encP a = ((k, l), c)) :
    Calls Try.prog 13 #[v] w fun e w' => e = .returned (.tuple #[.agg #[.int .u8 n, .string s], .int .i64 c]) ∧ Below w.heap.size w w' := by
  subst hk hs
  have := enc_any a v w f har
  rw [e] at this
  exact this
theorem bytes_lit (v : Value) (w : World) (h : TL w v [t1, tT]) :
    Calls Try.prog 17 #[v] w fun e w' => e = .returned (.tuple #[.string ⟨#[49, 0, 0, 0, 4, 90, 0, 0, 0, 5, 84]⟩, .int .i64 0]) ∧ Below w.heap.size w w' := by
  have := bytes_any [t1, tT] v w (by decide) (by intro t ht; simp at ht; rcases ht with rfl | rfl; exact f_1; exact f_T) h
  rw [k_B] at this
  exact this
theorem same_yes (w : World) (a : Tell) (v1 v2 : Value) (h1 : AR (fun i => i < w.heap.size) w v1 a) (h2 : AR (fun i => i < w.heap.size) w v2 a) (l1 : Lens a) :
    Calls Try.prog 11 #[v1, v2] w fun e w' => e = .returned (.bool true) ∧ Below w.heap.size w w' := by
  have := rsame_any w a a v1 v2 h1 h2 l1 l1
  rw [decide_eq_true rfl] at this
  exact this
theorem right_Z (w : World) (v : Value) (h : AR (fun i => i < w.heap.size) w v tZ) : Calls Try.prog 15 #[v] w fun e w' => e = .returned (.bool true) ∧ Below w.heap.size w w' := by
  have := bright_any tZ v w f_Z h
  rw [encP_yes r_Z] at this
  exact this
end Go.Proofs.Ytnjifbgjglniaaa.BK
