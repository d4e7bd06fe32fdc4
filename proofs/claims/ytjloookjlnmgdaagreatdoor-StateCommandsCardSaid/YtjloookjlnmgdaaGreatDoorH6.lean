/- Dfm, Dcm, Dcq, Lyo, Dwc -/
import Derived.Test.YtjloookjlnmgdaaGreatDoorH5
import Derived.Test.YtjloookjlnmgdaaGreatDoorG21
import Derived.Deep.Slices
import Derived.Deep.Fields
import Derived.ChangeSame
import Derived.Lib.SmallJoins
import Derived.Test.YtjloookjlnmgdaaGreatDoorJ1
import Derived.Test.YtjloookjlnmgdaaGreatDoorG19
set_option linter.unusedSimpArgs false
set_option linter.unusedVariables false
namespace Go.Proofs.YtjloookjlnmgdaaGreatDoor
open Go.ChangeShapes Go.WideShapes Go.ChangeAt Go.RowKit
set_option maxRecDepth 100000
set_option linter.unusedVariables false
set_option linter.unusedSimpArgs false

def fw1 : List ByteArray := [⟨#[115, 101, 108, 101, 99, 116]⟩, ⟨#[42]⟩, ⟨#[102, 114, 111, 109]⟩, ⟨#[84]⟩]
def fw2 : List ByteArray := [⟨#[115, 101, 108, 101, 99, 116]⟩, ⟨#[42]⟩, ⟨#[102, 114, 111, 109]⟩, ⟨#[84]⟩, ⟨#[119, 104, 101, 114, 101]⟩, ⟨#[107]⟩, ⟨#[61]⟩, ⟨#[75]⟩]
def fw3 : List ByteArray := [⟨#[105, 110, 115, 101, 114, 116]⟩, ⟨#[105, 110, 116, 111]⟩, ⟨#[84]⟩, ⟨#[118, 97, 108, 117, 101, 115]⟩, ⟨#[40]⟩, ⟨#[75]⟩, ⟨#[44]⟩, ⟨#[86]⟩, ⟨#[41]⟩]
def fw4 : List ByteArray := [⟨#[117, 112, 100, 97, 116, 101]⟩, ⟨#[84]⟩, ⟨#[115, 101, 116]⟩, ⟨#[118]⟩, ⟨#[61]⟩, ⟨#[118]⟩, ⟨#[43]⟩, ⟨#[49]⟩, ⟨#[119, 104, 101, 114, 101]⟩, ⟨#[107]⟩, ⟨#[61]⟩, ⟨#[75]⟩]
def fw5 : List ByteArray := [⟨#[100, 101, 108, 101, 116, 101]⟩, ⟨#[102, 114, 111, 109]⟩, ⟨#[84]⟩]
def fw6 : List ByteArray := [⟨#[100, 101, 108, 101, 116, 101]⟩, ⟨#[102, 114, 111, 109]⟩, ⟨#[84]⟩, ⟨#[119, 104, 101, 114, 101]⟩, ⟨#[107]⟩, ⟨#[61]⟩, ⟨#[75]⟩]
def fw7 : List ByteArray := [⟨#[99, 114, 101, 97, 116, 101]⟩, ⟨#[116, 97, 98, 108, 101]⟩, ⟨#[84]⟩]
def formsD : List (List ByteArray) := [fw1, fw2, fw3, fw4, fw5, fw6, fw7]
def sCells (f : List ByteArray) : Array Value := (f.map Value.string).toArray
def FRm (w : World) (v : Value) : Prop := ∃ g, v = .slice (some ⟨g, 0, none⟩) 7 7 ∧ ∀ (i : Nat) (f : List ByteArray), formsD[i]? = some f → ∃ u, w.cell? ⟨g, i, none⟩ = some u ∧ BR w u f
theorem FRm.below {w w' : World} {v : Value} (h : FRm w v) (hb : Below w.heap.size w w') : FRm w' v := by
  obtain ⟨g, e, hx⟩ := h
  refine ⟨g, e, fun i f hi => ?_⟩
  obtain ⟨u, h1, h2⟩ := hx i f hi
  exact ⟨u, (hb.cell (p := ⟨g, i, none⟩) (World.block_lt_of_cell? w _ h1)).trans h1, h2.below hb⟩
theorem BR.blk {w : World} {g : Nat} {t : TypeId} {f : List ByteArray} (h : Blk w g t (sCells f)) : BR w (.slice (some ⟨g, 0, none⟩) f.length f.length) f := by
  refine ⟨g, rfl, fun i p hi => ?_⟩
  rw [h.cell i]
  unfold sCells
  simp [hi]
theorem forms_ok (w : World) (n : Nat) (hn : w.heap.size = n) : FRm ((((((((w.alloc (.cells (sCells fw1) 9)).alloc (.cells (sCells fw2) 9)).alloc (.cells (sCells fw3) 9)).alloc (.cells (sCells fw4) 9)).alloc (.cells (sCells fw5) 9)).alloc (.cells (sCells fw6) 9)).alloc (.cells (sCells fw7) 9)).alloc (.cells #[.slice (some ⟨n, 0, none⟩) 4 4, .slice (some ⟨n + 1, 0, none⟩) 8 8, .slice (some ⟨n + 1 + 1, 0, none⟩) 9 9, .slice (some ⟨n + 1 + 1 + 1, 0, none⟩) 12 12, .slice (some ⟨n + 1 + 1 + 1 + 1, 0, none⟩) 3 3, .slice (some ⟨n + 1 + 1 + 1 + 1 + 1, 0, none⟩) 7 7, .slice (some ⟨n + 1 + 1 + 1 + 1 + 1 + 1, 0, none⟩) 3 3] 56)) (.slice (some ⟨n + 1 + 1 + 1 + 1 + 1 + 1 + 1, 0, none⟩) 7 7) ∧ Below n w ((((((((w.alloc (.cells (sCells fw1) 9)).alloc (.cells (sCells fw2) 9)).alloc (.cells (sCells fw3) 9)).alloc (.cells (sCells fw4) 9)).alloc (.cells (sCells fw5) 9)).alloc (.cells (sCells fw6) 9)).alloc (.cells (sCells fw7) 9)).alloc (.cells #[.slice (some ⟨n, 0, none⟩) 4 4, .slice (some ⟨n + 1, 0, none⟩) 8 8, .slice (some ⟨n + 1 + 1, 0, none⟩) 9 9, .slice (some ⟨n + 1 + 1 + 1, 0, none⟩) 12 12, .slice (some ⟨n + 1 + 1 + 1 + 1, 0, none⟩) 3 3, .slice (some ⟨n + 1 + 1 + 1 + 1 + 1, 0, none⟩) 7 7, .slice (some ⟨n + 1 + 1 + 1 + 1 + 1 + 1, 0, none⟩) 3 3] 56)) := by
  have b0 : Below n w w := Below.refl _ _
  obtain ⟨W1, h1⟩ : ∃ W, w.alloc (.cells (sCells fw1) 9) = W := ⟨_, rfl⟩
  rw [h1]
  have s1 : W1.heap.size = n + 1 := by rw [← h1]; simp [hn]
  have k1 : Blk W1 (n) 9 (sCells fw1) := by rw [← h1]; exact Blk.newAt _ _ _ _ hn
  have b1 : Below n w W1 := by rw [← h1]; exact b0.alloc (by omega) _
  obtain ⟨W2, h2⟩ : ∃ W, W1.alloc (.cells (sCells fw2) 9) = W := ⟨_, rfl⟩
  rw [h2]
  have s2 : W2.heap.size = n + 1 + 1 := by rw [← h2]; simp [s1]
  have k2 : Blk W2 (n + 1) 9 (sCells fw2) := by rw [← h2]; exact Blk.newAt _ _ _ _ s1
  have k1 : Blk W2 (n) 9 (sCells fw1) := by rw [← h2]; exact k1.alloc _
  have b2 : Below n w W2 := by rw [← h2]; exact b1.alloc (by omega) _
  obtain ⟨W3, h3⟩ : ∃ W, W2.alloc (.cells (sCells fw3) 9) = W := ⟨_, rfl⟩
  rw [h3]
  have s3 : W3.heap.size = n + 1 + 1 + 1 := by rw [← h3]; simp [s2]
  have k3 : Blk W3 (n + 1 + 1) 9 (sCells fw3) := by rw [← h3]; exact Blk.newAt _ _ _ _ s2
  have k1 : Blk W3 (n) 9 (sCells fw1) := by rw [← h3]; exact k1.alloc _
  have k2 : Blk W3 (n + 1) 9 (sCells fw2) := by rw [← h3]; exact k2.alloc _
  have b3 : Below n w W3 := by rw [← h3]; exact b2.alloc (by omega) _
  obtain ⟨W4, h4⟩ : ∃ W, W3.alloc (.cells (sCells fw4) 9) = W := ⟨_, rfl⟩
  rw [h4]
  have s4 : W4.heap.size = n + 1 + 1 + 1 + 1 := by rw [← h4]; simp [s3]
  have k4 : Blk W4 (n + 1 + 1 + 1) 9 (sCells fw4) := by rw [← h4]; exact Blk.newAt _ _ _ _ s3
  have k1 : Blk W4 (n) 9 (sCells fw1) := by rw [← h4]; exact k1.alloc _
  have k2 : Blk W4 (n + 1) 9 (sCells fw2) := by rw [← h4]; exact k2.alloc _
  have k3 : Blk W4 (n + 1 + 1) 9 (sCells fw3) := by rw [← h4]; exact k3.alloc _
  have b4 : Below n w W4 := by rw [← h4]; exact b3.alloc (by omega) _
  obtain ⟨W5, h5⟩ : ∃ W, W4.alloc (.cells (sCells fw5) 9) = W := ⟨_, rfl⟩
  rw [h5]
  have s5 : W5.heap.size = n + 1 + 1 + 1 + 1 + 1 := by rw [← h5]; simp [s4]
  have k5 : Blk W5 (n + 1 + 1 + 1 + 1) 9 (sCells fw5) := by rw [← h5]; exact Blk.newAt _ _ _ _ s4
  have k1 : Blk W5 (n) 9 (sCells fw1) := by rw [← h5]; exact k1.alloc _
  have k2 : Blk W5 (n + 1) 9 (sCells fw2) := by rw [← h5]; exact k2.alloc _
  have k3 : Blk W5 (n + 1 + 1) 9 (sCells fw3) := by rw [← h5]; exact k3.alloc _
  have k4 : Blk W5 (n + 1 + 1 + 1) 9 (sCells fw4) := by rw [← h5]; exact k4.alloc _
  have b5 : Below n w W5 := by rw [← h5]; exact b4.alloc (by omega) _
  obtain ⟨W6, h6⟩ : ∃ W, W5.alloc (.cells (sCells fw6) 9) = W := ⟨_, rfl⟩
  rw [h6]
  have s6 : W6.heap.size = n + 1 + 1 + 1 + 1 + 1 + 1 := by rw [← h6]; simp [s5]
  have k6 : Blk W6 (n + 1 + 1 + 1 + 1 + 1) 9 (sCells fw6) := by rw [← h6]; exact Blk.newAt _ _ _ _ s5
  have k1 : Blk W6 (n) 9 (sCells fw1) := by rw [← h6]; exact k1.alloc _
  have k2 : Blk W6 (n + 1) 9 (sCells fw2) := by rw [← h6]; exact k2.alloc _
  have k3 : Blk W6 (n + 1 + 1) 9 (sCells fw3) := by rw [← h6]; exact k3.alloc _
  have k4 : Blk W6 (n + 1 + 1 + 1) 9 (sCells fw4) := by rw [← h6]; exact k4.alloc _
  have k5 : Blk W6 (n + 1 + 1 + 1 + 1) 9 (sCells fw5) := by rw [← h6]; exact k5.alloc _
  have b6 : Below n w W6 := by rw [← h6]; exact b5.alloc (by omega) _
  obtain ⟨W7, h7⟩ : ∃ W, W6.alloc (.cells (sCells fw7) 9) = W := ⟨_, rfl⟩
  rw [h7]
  have s7 : W7.heap.size = n + 1 + 1 + 1 + 1 + 1 + 1 + 1 := by rw [← h7]; simp [s6]
  have k7 : Blk W7 (n + 1 + 1 + 1 + 1 + 1 + 1) 9 (sCells fw7) := by rw [← h7]; exact Blk.newAt _ _ _ _ s6
  have k1 : Blk W7 (n) 9 (sCells fw1) := by rw [← h7]; exact k1.alloc _
  have k2 : Blk W7 (n + 1) 9 (sCells fw2) := by rw [← h7]; exact k2.alloc _
  have k3 : Blk W7 (n + 1 + 1) 9 (sCells fw3) := by rw [← h7]; exact k3.alloc _
  have k4 : Blk W7 (n + 1 + 1 + 1) 9 (sCells fw4) := by rw [← h7]; exact k4.alloc _
  have k5 : Blk W7 (n + 1 + 1 + 1 + 1) 9 (sCells fw5) := by rw [← h7]; exact k5.alloc _
  have k6 : Blk W7 (n + 1 + 1 + 1 + 1 + 1) 9 (sCells fw6) := by rw [← h7]; exact k6.alloc _
  have b7 : Below n w W7 := by rw [← h7]; exact b6.alloc (by omega) _
  obtain ⟨W8, h8⟩ : ∃ W, W7.alloc (.cells #[.slice (some ⟨n, 0, none⟩) 4 4, .slice (some ⟨n + 1, 0, none⟩) 8 8, .slice (some ⟨n + 1 + 1, 0, none⟩) 9 9, .slice (some ⟨n + 1 + 1 + 1, 0, none⟩) 12 12, .slice (some ⟨n + 1 + 1 + 1 + 1, 0, none⟩) 3 3, .slice (some ⟨n + 1 + 1 + 1 + 1 + 1, 0, none⟩) 7 7, .slice (some ⟨n + 1 + 1 + 1 + 1 + 1 + 1, 0, none⟩) 3 3] 56) = W := ⟨_, rfl⟩
  rw [h8]
  have s8 : W8.heap.size = n + 1 + 1 + 1 + 1 + 1 + 1 + 1 + 1 := by rw [← h8]; simp [s7]
  have k8 : Blk W8 (n + 1 + 1 + 1 + 1 + 1 + 1 + 1) 56 #[.slice (some ⟨n, 0, none⟩) 4 4, .slice (some ⟨n + 1, 0, none⟩) 8 8, .slice (some ⟨n + 1 + 1, 0, none⟩) 9 9, .slice (some ⟨n + 1 + 1 + 1, 0, none⟩) 12 12, .slice (some ⟨n + 1 + 1 + 1 + 1, 0, none⟩) 3 3, .slice (some ⟨n + 1 + 1 + 1 + 1 + 1, 0, none⟩) 7 7, .slice (some ⟨n + 1 + 1 + 1 + 1 + 1 + 1, 0, none⟩) 3 3] := by rw [← h8]; exact Blk.newAt _ _ _ _ s7
  have k1 : Blk W8 (n) 9 (sCells fw1) := by rw [← h8]; exact k1.alloc _
  have k2 : Blk W8 (n + 1) 9 (sCells fw2) := by rw [← h8]; exact k2.alloc _
  have k3 : Blk W8 (n + 1 + 1) 9 (sCells fw3) := by rw [← h8]; exact k3.alloc _
  have k4 : Blk W8 (n + 1 + 1 + 1) 9 (sCells fw4) := by rw [← h8]; exact k4.alloc _
  have k5 : Blk W8 (n + 1 + 1 + 1 + 1) 9 (sCells fw5) := by rw [← h8]; exact k5.alloc _
  have k6 : Blk W8 (n + 1 + 1 + 1 + 1 + 1) 9 (sCells fw6) := by rw [← h8]; exact k6.alloc _
  have k7 : Blk W8 (n + 1 + 1 + 1 + 1 + 1 + 1) 9 (sCells fw7) := by rw [← h8]; exact k7.alloc _
  have b8 : Below n w W8 := by rw [← h8]; exact b7.alloc (by omega) _
  refine ⟨⟨n + 1 + 1 + 1 + 1 + 1 + 1 + 1, rfl, fun i f hi => ?_⟩, b8⟩
  rcases i with _ | _ | _ | _ | _ | _ | _ | i
  · obtain rfl : fw1 = f := by simpa [formsD] using hi
    exact ⟨_, k8.cell 0, BR.blk k1⟩
  · obtain rfl : fw2 = f := by simpa [formsD] using hi
    exact ⟨_, k8.cell 1, BR.blk k2⟩
  · obtain rfl : fw3 = f := by simpa [formsD] using hi
    exact ⟨_, k8.cell 2, BR.blk k3⟩
  · obtain rfl : fw4 = f := by simpa [formsD] using hi
    exact ⟨_, k8.cell 3, BR.blk k4⟩
  · obtain rfl : fw5 = f := by simpa [formsD] using hi
    exact ⟨_, k8.cell 4, BR.blk k5⟩
  · obtain rfl : fw6 = f := by simpa [formsD] using hi
    exact ⟨_, k8.cell 5, BR.blk k6⟩
  · obtain rfl : fw7 = f := by simpa [formsD] using hi
    exact ⟨_, k8.cell 6, BR.blk k7⟩
  · simp [formsD] at hi
theorem forms_any (w : World) : Calls Tryz.prog 28 #[] w fun e w' => ∃ v, e = .returned v ∧ FRm w' v ∧ Below w.heap.size w w' := by
  have H := Lib.hid (forms_ok w w.heap.size rfl)
  go_enter Tryz.func28, Tryz.ntmps28
  go_wp2
  go_ret
  exact ⟨_, rfl, H.out.1, H.out.2⟩

def kindsD : List Int := [1, 1, 2, 3, 4, 4, 5]
def cmdDgo : List Int → List (List ByteArray) → List Tok → Cm × Bool
  | k :: ks, f :: fs, l => (match likeL f l with | some c => ((k, c.2.1, c.2.2.1, c.2.2.2.1, c.2.2.2.2), true) | none => cmdDgo ks fs l)
  | _, _, _ => (cmdZ, false)
def cmdD (l : List Tok) : Cm × Bool := cmdDgo kindsD formsD l
theorem cmdDgo_at {i : Nat} {k : Int} {f : List ByteArray} {l : List Tok} (hk : kindsD[i]? = some k) (hf : formsD[i]? = some f) :
    cmdDgo (kindsD.drop i) (formsD.drop i) l = (match likeL f l with | some c => ((k, c.2.1, c.2.2.1, c.2.2.2.1, c.2.2.2.2), true) | none => cmdDgo (kindsD.drop (i + 1)) (formsD.drop (i + 1)) l) := by
  obtain ⟨h1, h2⟩ := List.getElem?_eq_some_iff.1 hk
  obtain ⟨h3, h4⟩ := List.getElem?_eq_some_iff.1 hf
  rw [List.drop_eq_getElem_cons h1, List.drop_eq_getElem_cons h3, h2, h4]; rfl
theorem forms_pos : ∀ f ∈ formsD, ∀ p ∈ f, 0 < p.size := by
  intro f hf p hp
  simp only [formsD, List.mem_cons, List.not_mem_nil, or_false] at hf
  rcases hf with rfl | rfl | rfl | rfl | rfl | rfl | rfl <;>
    (simp only [fw1, fw2, fw3, fw4, fw5, fw6, fw7, List.mem_cons, List.not_mem_nil, or_false] at hp
     rcases hp with rfl | rfl | rfl | rfl | rfl | rfl | rfl | rfl | rfl | rfl | rfl | rfl <;> decide)
def kCells : Array Value := #[.int .i64 1, .int .i64 1, .int .i64 2, .int .i64 3, .int .i64 4, .int .i64 4, .int .i64 5]
theorem kCells_at (i : Nat) (k : Int) (h : kindsD[i]? = some k) : kCells[i]? = some (.int .i64 k) := by
  rcases i with _ | _ | _ | _ | _ | _ | _ | i
  all_goals first
    | (simp [kindsD] at h; done)
    | (simp [kindsD] at h; subst h; rfl)
set_option maxHeartbeats 4000000 in
theorem cmdD_any (v : Value) (l : List Tok) (w : World) (hT : TR w v l) (hl : l.length ≤ 1000000) (hz : ∀ t ∈ l, t.2.1.size ≤ 1000000) :
    Calls Tryz.prog 11 #[v] w fun e w' => e = .returned (.tuple #[cmV (cmdD l).1, .bool (cmdD l).2]) ∧ Below w.heap.size w w' := by
  obtain ⟨R, hR⟩ : ∃ R, cmdD l = R := ⟨_, rfl⟩
  rw [hR]
  have hb1 : Below w.heap.size w (w.alloc (.cells #[.int .i64 0, .string ⟨#[]⟩, .int .i64 0, .int .i64 0, .bool false] 24)) := (Below.refl _ _).alloc (Nat.le_refl _) _
  obtain ⟨W1, hW1⟩ : ∃ W1, w.alloc (.cells #[.int .i64 0, .string ⟨#[]⟩, .int .i64 0, .int .i64 0, .bool false] 24) = W1 := ⟨_, rfl⟩
  have hZ : Blk W1 w.heap.size 24 (cmCells cmdZ) := by rw [← hW1]; exact Blk.new _ _ _
  rw [hW1] at hb1
  have HZ := Lib.hid hZ
  have HB1 := Lib.hid hb1
  have HT := Lib.hid hT
  have HL := Lib.hid hl
  have HZS := Lib.hid hz
  have HR : Hid (cmdDgo (kindsD.drop 0) (formsD.drop 0) l = R) := Lib.hid hR
  have HFM := Lib.hid (forms_any W1)
  obtain ⟨a, cap, rfl⟩ := hT.form
  clear hR hZ hb1 hT hl hz
  go_enter Tryz.func11, Tryz.ntmps11
  go_wp2_with fail
  clear hW1
  refine HFM.out.mono ?_
  rintro e w2 ⟨vf, rfl, hfm, hb2⟩
  have HB2 := Lib.hid (HB1.out.trans (hb2.mono HB1.out.size))
  have HZ2 := Lib.hid (HZ.out.below hb2 HZ.out.lt)
  have HFM2 := Lib.hid hfm
  obtain ⟨gf, rfl, _⟩ := hfm
  clear hb2
  go_wp2_with fail
  go_loopg [5] 7 (fun gk u5 wx => ∃ (i : Nat), u5 = .int .i64 (i : Int) ∧ i + gk = 7 ∧ Blk wx w.heap.size 24 (cmCells cmdZ) ∧ Below w.heap.size w wx ∧ FRm wx (.slice (some ⟨gf, 0, none⟩) 7 7) ∧ cmdDgo (kindsD.drop i) (formsD.drop i) l = R)
  case atStart => exact ⟨0, rfl, by omega, HZ2.out, HB2.out, HFM2.out, HR.out⟩
  case round =>
    obtain ⟨i, rfl, hi, hZ, hB, hF, hr⟩ := hrel
    have HZR := Lib.hid hZ
    have HB := Lib.hid hB
    have HI := Lib.hid hi
    cases gk with
    | zero =>
      have l1 : ¬ ((i : Int) < 7) := by omega
      have hR : R = (cmdZ, false) := by rw [← hr]; have : i = 7 := by omega
                                        subst this; rfl
      subst hR
      obtain ⟨z0, z1, z2, z3, z4⟩ := cm_results cmdZ hZ
      have fz0 := hZ.frozen 0
      have fz1 := hZ.frozen 1
      have fz2 := hZ.frozen 2
      have fz3 := hZ.frozen 3
      have fz4 := hZ.frozen 4
      clear hi hZ hB hF hr
      go_wp2
      have hfin := cm_set5 0 ⟨#[]⟩ 0 0 false HZR.out
      have hbfin := bel_set5 0 ⟨#[]⟩ 0 0 false HB.out (Nat.le_refl w.heap.size)
      obtain ⟨k0, k1, k2, k3, k4⟩ := cm_results _ hfin
      refine bodyPost_ret (v := .tuple #[cmV cmdZ, .bool false]) (by simp [results, Tryz.results11, go_sem, k0, k1, k2, k3, k4, cmdZ]) rfl ?_
      exact ⟨rfl, hbfin⟩
    | succ gk =>
      have hlt : i < 7 := by omega
      obtain ⟨f, hf⟩ : ∃ f, formsD[i]? = some f := ⟨_, List.getElem?_eq_getElem (by show i < 7; exact hlt)⟩
      obtain ⟨kd, hkd⟩ : ∃ k, kindsD[i]? = some k := ⟨_, List.getElem?_eq_getElem (by show i < 7; exact hlt)⟩
      rw [cmdDgo_at hkd hf] at hr
      obtain ⟨gf2, hgf, hxf⟩ := hF
      injection hgf with hgf _ _
      injection hgf with hgf
      injection hgf with hgf _ _
      subst hgf
      obtain ⟨u, x0, hbr⟩ := hxf i f hf
      have hkc := kCells_at i kd hkd
      have HKC := Lib.hid hkc
      have HF : Hid (FRm wr (.slice (some ⟨gf, 0, none⟩) 7 7)) := Lib.hid ⟨gf, rfl, hxf⟩
      have HLK := Lib.hid (like_any (.slice a l.length cap) u l f wr (HT.out.below hB) hbr HL.out HZS.out (forms_pos f (List.mem_of_getElem? hf)))
      obtain ⟨u1, u2, u3, rfl⟩ : ∃ u1 u2 u3, u = .slice u1 u2 u3 := by obtain ⟨g, e, _⟩ := hbr; exact ⟨_, _, _, e⟩
      have l0 : (0 : Int) ≤ (i : Int) := by omega
      have l1 : (i : Int) < 7 := by omega
      obtain ⟨i1, hi1⟩ : ∃ i1, i + 1 = i1 := ⟨_, rfl⟩
      have wk : IntKind.i64.wrap ((i : Int) + 1) = (i1 : Int) := by rw [show (i : Int) + 1 = (i1 : Int) by omega]; exact IntWalk.i64_in _ (by omega)
      rw [hi1] at hr
      have HI1 := Lib.hid hi1
      clear hi hZ hB hlt hf hkd hxf hbr hkc hi1
      cases hlk : likeL f l with
      | none =>
        rw [hlk] at hr HLK
        simp only at hr
        have HR2 := Lib.hid hr
        clear hr hlk
        go_wp2_with fail
        refine HLK.out.mono ?_
        rintro e w3 ⟨rfl, hb3⟩
        have HB3 := Lib.hid (HB.out.trans (hb3.mono HB.out.size))
        have HZ3 := Lib.hid (HZR.out.below hb3 HZR.out.lt)
        have HF3 := Lib.hid (HF.out.below hb3)
        clear hb3 x0
        go_wp2
        go_roundg gk
        case measure => exact Nat.lt_succ_self _
        case rel => exact ⟨i1, rfl, by have := HI.out; have := HI1.out; omega, HZ3.out.alloc _, HB3.out.alloc HB3.out.size _, HF3.out.below ((Below.refl _ _).alloc (Nat.le_refl _) _), HR2.out⟩
      | some c =>
        obtain ⟨c0, c1, c2, c3, c4⟩ := c
        rw [hlk] at hr HLK
        simp only at hr
        subst hr
        clear hlk
        go_wp2_with fail
        refine HLK.out.mono ?_
        rintro e w3 ⟨rfl, hb3⟩
        have HB3 := Lib.hid (HB.out.trans (hb3.mono HB.out.size))
        have HZ3 := Lib.hid (HZR.out.below hb3 HZR.out.lt)
        clear hb3 x0
        go_upto_region 7 with fail
        obtain ⟨g3, hg3⟩ : ∃ g3, w3.heap.size = g3 := ⟨_, rfl⟩
        obtain ⟨W4, hW4⟩ : ∃ W4, w3.alloc (.cells #[.int .i64 c0, .string c1, .int .i64 c2, .int .i64 c3, .bool c4] 24) = W4 := ⟨_, rfl⟩
        have k4 : Blk W4 g3 24 (cmCells (c0, c1, c2, c3, c4)) := by rw [← hW4]; exact Blk.newAt _ _ _ _ hg3
        have q4 : Blk W4 w.heap.size 24 (cmCells cmdZ) := by rw [← hW4]; exact HZ3.out.alloc _
        have b4 : Below w.heap.size w W4 := by rw [← hW4]; exact HB3.out.alloc HB3.out.size _
        have hne : w.heap.size ≠ g3 := by have := HZ3.out.lt; omega
        have hgw : w.heap.size ≤ g3 := by have := HB3.out.size; omega
        rw [hW4, hg3]
        clear hW4 hg3
        obtain ⟨W5, hW5⟩ : ∃ W5, W4.alloc (.cells #[.int .i64 1, .int .i64 1, .int .i64 2, .int .i64 3, .int .i64 4, .int .i64 4, .int .i64 5] 3) = W5 := ⟨_, rfl⟩
        have k5 : Blk W5 g3 24 (cmCells (c0, c1, c2, c3, c4)) := by rw [← hW5]; exact k4.alloc _
        have q5 : Blk W5 w.heap.size 24 (cmCells cmdZ) := by rw [← hW5]; exact q4.alloc _
        have b5 : Below w.heap.size w W5 := by rw [← hW5]; exact b4.alloc b4.size _
        have n5 : Blk W5 W4.heap.size 3 kCells := by rw [← hW5]; exact Blk.new _ _ _
        have v5 : W5.cell? ⟨W4.heap.size, i, none⟩ = some (.int .i64 kd) := (n5.cell i).trans HKC.out
        have y0 : W5.cell? ⟨g3, 0, none⟩ = some (.int .i64 c0) := k5.cell 0
        have fy0 : W5.frozen? ⟨g3, 0, none⟩ = false := k5.frozen 0
        obtain ⟨W6, hW6⟩ : ∃ W6, W5.setCell ⟨g3, 0, none⟩ (.int .i64 kd) = W6 := ⟨_, rfl⟩
        have k6 : Blk W6 g3 24 (cmCells (kd, c1, c2, c3, c4)) := by rw [← hW6]; exact k5.set_ 0 _
        have q6 : Blk W6 w.heap.size 24 (cmCells cmdZ) := by rw [← hW6]; exact q5.far (by exact hne) _
        have b6 : Below w.heap.size w W6 := by rw [← hW6]; exact b5.setCell (p := ⟨g3, 0, none⟩) hgw _
        obtain ⟨y0', y1, y2, y3, y4⟩ := cm_results _ k6
        obtain ⟨z0, z1, z2, z3, z4⟩ := cm_results cmdZ q6
        have fz0 := q6.frozen 0
        have fz1 := q6.frozen 1
        have fz2 := q6.frozen 2
        have fz3 := q6.frozen 3
        have fz4 := q6.frozen 4
        have Q6 := Lib.hid q6
        have B6 := Lib.hid b6
        clear k4 q4 b4 k5 q5 b5 n5 k6 q6 b6 hne hgw
        go_wp2
        have hfin := cm_set5 kd c1 c2 c3 c4 Q6.out
        have hbfin := bel_set5 kd c1 c2 c3 c4 B6.out (Nat.le_refl w.heap.size)
        obtain ⟨k0, k1, k2, k3, k4⟩ := cm_results _ hfin
        refine bodyPost_ret (v := .tuple #[cmV (kd, c1, c2, c3, c4), .bool true]) (by simp [results, Tryz.results11, go_sem, k0, k1, k2, k3, k4]) rfl ?_
        exact ⟨rfl, hbfin⟩

def wordOf (p : Tok) : ByteArray := if p.2.1.data.toList = [36, 49] then ⟨#[84]⟩ else if p.2.1.data.toList = [36, 50] then ⟨#[75]⟩ else if p.2.1.data.toList = [36, 51] then ⟨#[86]⟩ else p.2.1
def isKey (p : Tok) : Bool := p.2.1.data.toList == [36, 50]
def fitP (p : Tok) : Bool :=
  if p.2.1.data.toList = [36, 49] then true else if p.2.1.data.toList = [36, 50] then true else if p.2.1.data.toList = [36, 51] then true
  else !(p.2.1.data.toList == [84]) && !(p.2.1.data.toList == [75]) && !(p.2.1.data.toList == [86]) && (if p.2.1.data.toList = [49] then p.1 == 4 else p.1 == (if (p.2.1.data.toList.headD 0).toNat < 97 then 5 else 1))
theorem step_same (k c0 : Int) (T : ByteArray) (K V : Int) (kb b : Bool) (p t : Tok) (h : fitP p = true) :
    ∃ T' K' V', (takeC (k, T, K, V, kb) p t).1 = (k, T', K', V', kb) ∧ likeT (c0, T, K, V, b) (wordOf p) t = if (takeC (k, T, K, V, kb) p t).2 = true then some (c0, T', K', V', b || isKey p) else none := by
  by_cases h1 : p.2.1.data.toList = [36, 49]
  · have e1 : wordOf p = ⟨#[84]⟩ := if_pos h1
    have e2 : takeC (k, T, K, V, kb) p t = ((k, t.2.1, K, V, kb), tabB t) := if_pos h1
    have e3 : isKey p = false := by unfold isKey; rw [h1]; rfl
    refine ⟨t.2.1, K, V, by rw [e2], ?_⟩
    rw [e1, e2, e3, Bool.or_false]
    unfold likeT tabB
    rw [if_pos rfl]
    by_cases ht : t.1 = 1
    · rw [if_pos ht, ht]
      cases hn : nameB t.2.1 <;> simp
    · rw [if_neg ht]
      simp [ht]
  · by_cases h2 : p.2.1.data.toList = [36, 50]
    · have e1 : wordOf p = ⟨#[75]⟩ := by unfold wordOf; rw [if_neg h1, if_pos h2]
      have e2 : takeC (k, T, K, V, kb) p t = ((k, T, (((numO t).getD 0 : Nat) : Int), V, kb), (numO t).isSome) := by unfold takeC; rw [if_neg h1, if_pos h2]
      have e3 : isKey p = true := by unfold isKey; rw [h2]; rfl
      refine ⟨T, (((numO t).getD 0 : Nat) : Int), V, by rw [e2], ?_⟩
      rw [e1, e2, e3, Bool.or_true]
      unfold likeT
      rw [if_neg (by decide), if_pos rfl]
      cases hn : numO t with
      | none => rw [numD_none hn]; rfl
      | some q => rw [numD_some hn, if_neg (by omega)]; rfl
    · by_cases h3 : p.2.1.data.toList = [36, 51]
      · have e1 : wordOf p = ⟨#[86]⟩ := by unfold wordOf; rw [if_neg h1, if_neg h2, if_pos h3]
        have e2 : takeC (k, T, K, V, kb) p t = ((k, T, K, (((numO t).getD 0 : Nat) : Int), kb), (numO t).isSome) := by unfold takeC; rw [if_neg h1, if_neg h2, if_pos h3]
        have e3 : isKey p = false := by unfold isKey; rw [h3]; rfl
        refine ⟨T, K, (((numO t).getD 0 : Nat) : Int), by rw [e2], ?_⟩
        rw [e1, e2, e3, Bool.or_false]
        unfold likeT
        rw [if_neg (by decide), if_neg (by decide), if_pos rfl]
        cases hn : numO t with
        | none => rw [numD_none hn]; rfl
        | some q => rw [numD_some hn, if_neg (by omega)]; rfl
      · have e1 : wordOf p = p.2.1 := by unfold wordOf; rw [if_neg h1, if_neg h2, if_neg h3]
        have e2 : takeC (k, T, K, V, kb) p t = ((k, T, K, V, kb), t.1 == p.1 && t.2.1.data.toList == p.2.1.data.toList) := by unfold takeC; rw [if_neg h1, if_neg h2, if_neg h3]
        have e3 : isKey p = false := by unfold isKey; rw [beq_eq_false_iff_ne]; exact h2
        refine ⟨T, K, V, by rw [e2], ?_⟩
        rw [e1, e2, e3, Bool.or_false]
        unfold fitP at h
        rw [if_neg h1, if_neg h2, if_neg h3] at h
        simp only [Bool.and_eq_true, Bool.not_eq_true', beq_eq_false_iff_ne] at h
        obtain ⟨⟨⟨g1, g2⟩, g3⟩, g4⟩ := h
        unfold likeT
        rw [if_neg g1, if_neg g2, if_neg g3]
        by_cases h4 : p.2.1.data.toList = [49]
        · rw [if_pos h4]
          rw [if_pos h4] at g4
          have g5 : p.1 = 4 := by simpa using g4
          rw [g5, h4]
          by_cases ht : t.1 = 4
          · rw [if_pos ht, ht]
            by_cases hx : t.2.1.data.toList = [49]
            · rw [if_pos hx, hx]; simp
            · rw [if_neg hx]; simp [hx]
          · rw [if_neg ht]; simp [ht]
        · rw [if_neg h4]
          rw [if_neg h4] at g4
          have g5 : p.1 = (if (p.2.1.data.toList.headD 0).toNat < 97 then 5 else 1) := by simpa using g4
          rw [← g5]
          by_cases ht : t.1 = p.1
          · rw [if_pos ht, ht]
            by_cases hx : t.2.1 = p.2.1
            · rw [if_pos hx, hx]; simp
            · have hy : t.2.1.data.toList ≠ p.2.1.data.toList := fun h => hx (by apply ByteArray.ext; exact Array.ext' h)
              rw [if_neg hx]; simp [hx, hy]; exact fun h => hx (by apply ByteArray.ext; exact h)
          · rw [if_neg ht]; simp [ht]
theorem readD_same (k c0 : Int) (kb : Bool) : ∀ (ps l : List Tok) (T : ByteArray) (K V : Int) (b : Bool), (∀ p ∈ ps, fitP p = true) → l.length = ps.length →
    (∃ e : Cm, likeGo (c0, T, K, V, b) (ps.map wordOf) l = some e ∧ readFrom (k, T, K, V, kb) ps l = ((k, e.2.1, e.2.2.1, e.2.2.2.1, kb), true) ∧ e.2.2.2.2 = (b || ps.any isKey)) ∨
    (likeGo (c0, T, K, V, b) (ps.map wordOf) l = none ∧ readFrom (k, T, K, V, kb) ps l = (cmdZ, false))
  | [], [], T, K, V, b, _, _ => .inl ⟨_, rfl, rfl, by simp⟩
  | [], t :: l, T, K, V, b, _, h => by simp at h
  | p :: ps, [], T, K, V, b, _, h => by simp at h
  | p :: ps, t :: l, T, K, V, b, hp, h => by
    obtain ⟨T', K', V', h1, h2⟩ := step_same k c0 T K V kb b p t (hp p (List.mem_cons_self ..))
    rw [List.map_cons, likeGo, h2, readFrom, h1]
    cases hq : (takeC (k, T, K, V, kb) p t).2 with
    | false => right; simp
    | true =>
      simp only [if_true]
      rcases readD_same k c0 kb ps l T' K' V' (b || isKey p) (fun q hq => hp q (List.mem_cons_of_mem _ hq)) (by simpa using h) with ⟨e, g1, g2, g3⟩ | ⟨g1, g2⟩
      · left; exact ⟨e, g1, g2, by rw [g3, List.any_cons, Bool.or_assoc]⟩
      · right; exact ⟨g1, g2⟩
theorem one_same (fm : Fm) (f : List ByteArray) (ps : List Tok) (hps : partsC fm = ps) (hf : ps.map wordOf = f) (hok : ∀ p ∈ ps, fitP p = true) (hkb : fm.2.1 = ps.any isKey) (r : List Fm) (rk : List Int) (rf : List (List ByteArray)) (l : List Tok)
    (ih : cmdF r l = cmdDgo rk rf l) : cmdF (fm :: r) l = cmdDgo (fm.1 :: rk) (f :: rf) l := by
  subst hf
  rw [cmdF, cmdDgo]
  unfold readC likeL
  rw [hps, List.length_map]
  by_cases hl : l.length = ps.length
  · rw [if_pos hl, if_pos hl]
    rcases readD_same fm.1 0 fm.2.1 ps l ⟨#[]⟩ 0 0 false hok hl with ⟨e, g1, g2, g3⟩ | ⟨g1, g2⟩
    · have g1' : likeGo cmdZ (ps.map wordOf) l = some e := g1
      rw [g1', g2]
      rw [Bool.false_or, ← hkb] at g3
      simp [g3]
    · have g1' : likeGo cmdZ (ps.map wordOf) l = none := g1
      rw [g1', g2]
      simp [ih]
  · rw [if_neg hl, if_neg hl]
    simp [ih]
theorem cmd_same (l : List Tok) : cmdD l = cmdA l := by
  symm
  unfold cmdA cmdD
  exact one_same _ fw1 part1 (congrArg (·.1) scan1) (by decide) (by decide) (by decide) _ _ _ l
    (one_same _ fw2 part2 (congrArg (·.1) scan2) (by decide) (by decide) (by decide) _ _ _ l
    (one_same _ fw3 part3 (congrArg (·.1) scan3) (by decide) (by decide) (by decide) _ _ _ l
    (one_same _ fw4 part4 (congrArg (·.1) scan4) (by decide) (by decide) (by decide) _ _ _ l
    (one_same _ fw5 part5 (congrArg (·.1) scan5) (by decide) (by decide) (by decide) _ _ _ l
    (one_same _ fw6 part6 (congrArg (·.1) scan6) (by decide) (by decide) (by decide) _ _ _ l
    (one_same _ fw7 part7 (congrArg (·.1) scan7) (by decide) (by decide) (by decide) [] [] [] l rfl))))))
end Go.Proofs.YtjloookjlnmgdaaGreatDoor
namespace Go.Proofs.YtjloookjlnmgdaaGreatDoor
set_option linter.unusedSimpArgs false
open Go.ChangeShapes Go.WideShapes Go.ChangeAt Go.RowKit
set_option maxRecDepth 100000
open Go.ChangeMaps (open_string shut_string)
open Go.Deep
set_option linter.unusedVariables false

theorem quiet_add {P : Program} {f : FuncId} {args : Array Value} {w : World} {n x : Nat} {v : Value}
    (h : Calls P f args (w.drewN (n + x)) fun e w' => e = .returned v ∧ ∃ m, w' = (w.drewN (n + x)).drewN m) : Calls P f args (w.drewN (n + x)) fun e w'' => e = .returned v ∧ ∃ m, w'' = w.drewN (n + m) :=
  h.mono fun _ _ ⟨he, m, hm⟩ => ⟨he, x + m, by rw [hm, World.drewN_drewN, Nat.add_assoc]⟩
def FitsT (w : World) (v : Value) : Prop := ∃ l : List Tok, TR w v l
theorem one_tok {H : Type} {enc : TypeId × Value → H} {W : World} {n : Nat} {cs : List Value} {D : DataW H} {p : List MemPlace} (ht : DataW.trod enc Tryz.prog W 0 (fun _ => true) true n 27 cs = some (D, p)) :
    ∃ t : Tok, cs[0]? = some (.int .i64 t.1) ∧ cs[1]? = some (.string t.2.1) ∧ cs[2]? = some (.int .i64 t.2.2) := by
  obtain ⟨xs, m, _, hx, hl, hxl, hf⟩ := DataW.trod_struct Tryz.underlying27 ht
  match xs, hxl with
  | [y0, y1, y2], _ =>
    have h0 : DataW.trod enc Tryz.prog W 0 (fun _ => true) true m 3 (List.take (Tryz.prog.cellsOf 3) (List.drop 0 cs)) = some y0 := hf 0 _ rfl
    have h1 : DataW.trod enc Tryz.prog W 0 (fun _ => true) true m 9 (List.take (Tryz.prog.cellsOf 9) (List.drop 1 cs)) = some y1 := hf 1 _ rfl
    have h2 : DataW.trod enc Tryz.prog W 0 (fun _ => true) true m 3 (List.take (Tryz.prog.cellsOf 3) (List.drop 2 cs)) = some y2 := hf 2 _ rfl
    rw [show Tryz.prog.cellsOf 3 = 1 by kernel_rfl] at h0 h2
    rw [show Tryz.prog.cellsOf 9 = 1 by kernel_rfl] at h1
    obtain ⟨x, e0, _, w0⟩ := DataW.trod_int Tryz.underlying3 h0
    obtain ⟨b, e1, d1, _⟩ := DataW.trod_string Tryz.underlying9 h1
    obtain ⟨z, e2, _, w2⟩ := DataW.trod_int Tryz.underlying3 h2
    refine ⟨(x, b, z), ?_, ?_, ?_⟩
    · have := congrArg (·[0]?) e0
      simpa using this
    · have := congrArg (·[0]?) e1
      simpa using this
    · have := congrArg (·[0]?) e2
      simpa using this
theorem opened_toks {H : Type} {enc : TypeId × Value → H} {W : World} {base : Nat} {v : Value} {d : DataW H} {p : List MemPlace} (hv : Value.okWide Tryz.prog W .any base 22 v)
    (h : DataW.Trod enc Tryz.prog W 0 (fun _ => true) true 22 v d p) (hz : (DataW.weights Tryz.prog 22 d).all (· ≤ reachBytes) = true) : FitsT W v := by
  obtain ⟨a, ln, cp, rfl⟩ := okWide_slice Tryz.underlying22 hv
  obtain ⟨fuel, hf⟩ := h
  rcases open_slice Tryz.underlying22 hf with ⟨e, _⟩ | ⟨ad, len, cap, m, n, D, Pl, hcs, hb, hl, hm, hmm, hx, hi⟩
  · simp [Value.cells] at e
    obtain ⟨rfl, rfl, rfl⟩ := e
    exact ⟨[], .inl ⟨_, _, rfl, rfl⟩⟩
  · simp [Value.cells] at hcs
    obtain ⟨rfl, rfl, rfl⟩ := hcs
    have hC : Tryz.prog.cellsOf 27 = 3 := by kernel_rfl
    rw [hC] at hi
    have hlm : ln ≤ m := by rw [hmm]; simp; exact hl
    have key : ∀ j, j ≤ ln → ∃ l : List Tok, l.length = j ∧ ∀ (i : Nat) (t : Tok), l[i]? = some t → W.cell? (ad.add (i * 3)) = some (.int .i64 t.1) ∧ W.cell? ((ad.add (i * 3)).add 1) = some (.string t.2.1) ∧ W.cell? ((ad.add (i * 3)).add 2) = some (.int .i64 t.2.2) := by
      intro j
      induction j with
      | zero => intro _; exact ⟨[], rfl, fun i x hi => by simp at hi⟩
      | succ j ih =>
        intro hj
        obtain ⟨l, h1, h2⟩ := ih (by omega)
        obtain ⟨cs', hc, ht⟩ := hi j (by omega)
        obtain ⟨_, hcl, hat⟩ := World.cells?_some hc
        obtain ⟨t, e0, e1, e2⟩ := one_tok ht
        refine ⟨l ++ [t], by simp [h1], fun i x hx' => ?_⟩
        by_cases hij : i < l.length
        · rw [List.getElem?_append_left hij] at hx'
          exact h2 i x hx'
        · have hlt := (List.getElem?_eq_some_iff.1 hx').1
          have hie : i = j := by simp at hlt; omega
          subst hie
          rw [List.getElem?_append_right (by omega), h1, Nat.sub_self] at hx'
          simp at hx'
          subst hx'
          have a0 := hat 0 (by omega)
          have a1 := hat 1 (by omega)
          have a2 := hat 2 (by omega)
          rw [e0] at a0
          rw [e1] at a1
          rw [e2] at a2
          exact ⟨by simpa [Addr.add] using a0, a1, a2⟩
    obtain ⟨l, h1, h2⟩ := key ln (Nat.le_refl _)
    refine ⟨l, ?_⟩
    by_cases h0 : l = []
    · subst h0
      exact .inl ⟨_, _, by rw [← h1]; rfl, rfl⟩
    · obtain ⟨x, hx0⟩ : ∃ x, l[0]? = some x := ⟨l[0]'(by cases l; exact absurd rfl h0; simp), List.getElem?_eq_getElem _⟩
      obtain ⟨c0, _⟩ := h2 0 x hx0
      have hsp : ad.spot = none := by
        have hcell : (W.cell? (ad.add (0 * 3))).isSome = true := by rw [c0]; rfl
        have e : ad.add (0 * 3) = ad := by simp [Addr.add]
        rw [e] at hcell
        unfold World.cell? at hcell
        cases hs : ad.spot with
        | none => rfl
        | some q => rw [hs] at hcell; revert hcell; split <;> simp
      obtain ⟨bl, of, sp⟩ := ad
      simp only at hsp
      subst hsp
      refine .inr ⟨bl, of, cp, by rw [h1], by omega, fun i y hy => ?_⟩
      obtain ⟨d0, d1, d2⟩ := h2 i y hy
      rw [Addr.add_lit] at d0 d1 d2
      rw [Addr.add_lit] at d1 d2
      exact ⟨d0, d1, d2⟩

theorem cmdD_same (v : Value) (l : List Tok) (R : Cm × Bool) (hR : cmdA l = R) (w : World) (hT : TR w v l) (hl : l.length ≤ 1000000) (hz : ∀ t ∈ l, t.2.1.size ≤ 1000000) :
    Calls Tryz.prog 11 #[v] w fun e w' => e = .returned (.tuple #[cmV R.1, .bool R.2]) ∧ Below w.heap.size w w' := by
  have := cmdD_any v l w hT hl hz
  rw [cmd_same, hR] at this
  exact this
theorem cmdA_same (v : Value) (l : List Tok) (R : Cm × Bool) (hR : cmdA l = R) (m : Int) (w : World) (hw : Wq m w) (hT : TR w v l) (hz : ∀ t ∈ l, t.2.1.size ≤ 1048576) :
    Calls Tryz.prog 10 #[v] w fun e w' => e = .returned (.tuple #[cmV R.1, .bool R.2]) ∧ Below w.heap.size w w' := by
  have := command_any l v m w hw hT hz
  rw [hR] at this
  exact this
theorem textA_same (kd : Int) (n : ByteArray) (K V : Int) (kb : Bool) (T : ByteArray) (hT : bb (textC (kd, n, K, V, kb)) = T) (m : Int) (w : World) (hw : Wq m w) (hn : n.size ≤ 1000) (hK : i64B K) (hV : i64B V) :
    Calls Tryz.prog 12 #[.agg #[.int .i64 kd, .string n, .int .i64 K, .int .i64 V, .bool kb]] w fun e w' => e = .returned (.string T) ∧ Below w.heap.size w w' := by
  subst hT
  exact text_any (kd, n, K, V, kb) m w hw hn hK hV
theorem textD_same (kd : Int) (n : ByteArray) (K V : Int) (kb : Bool) (T : ByteArray) (hT : bb (textC (kd, n, K, V, kb)) = T) (w : World) (hn : n.size ≤ 1000) :
    Calls Tryz.prog 13 #[.agg #[.int .i64 kd, .string n, .int .i64 K, .int .i64 V, .bool kb]] w fun e w' => e = .returned (.string T) ∧ Below w.heap.size w w' := by
  subst hT
  rw [text_same]
  exact doctext_any kd n K V kb w (by omega)
set_option maxHeartbeats 4000000 in
theorem sc_long (v : Value) (l : List Tok) (kd : Int) (n : ByteArray) (K V : Int) (kb : Bool) (m : Int) (w : World) (hm : Wq m w) (hT : TR w v l) (hK : i64B K) (hV : i64B V) (h60 : 60 < l.length) :
    Calls Tryz.prog 3 #[v, .agg #[.int .i64 kd, .string n, .int .i64 K, .int .i64 V, .bool kb]] w fun e w' => e = .returned (.bool true) ∧ Below w.heap.size w w' := by
  have l60 : (60 : Int) < (l.length : Int) := by omega
  have HT := Lib.hid hT
  have HKV : Hid (i64B K ∧ i64B V) := Lib.hid ⟨hK, hV⟩
  obtain ⟨a, cap, rfl⟩ := hT.form
  obtain ⟨W0, hW0⟩ : ∃ W0, w.alloc (.cells #[.int .i64 kd, .string n, .int .i64 K, .int .i64 V, .bool kb] 24) = W0 := ⟨_, rfl⟩
  have hb0 : Below w.heap.size w W0 := by rw [← hW0]; exact (Below.refl _ _).alloc (Nat.le_refl _) _
  have hk0 : Blk W0 w.heap.size 24 (cmCells (kd, n, K, V, kb)) := by rw [← hW0]; exact Blk.new _ _ _
  have HB0 := Lib.hid hb0
  have HM0 := Lib.hid (hm.below hb0)
  have HK := Lib.hid hk0
  have HT0 := Lib.hid (HT.out.below hb0)
  obtain ⟨y0, y1, y2, y3, y4⟩ := cm_results _ hk0
  clear hm hT hK hV hb0 hk0
  go_enter Tryz.func3, Tryz.ntmps3
  go_wp2_with fail
  refine (known8_any m _ HM0.out).mono ?_
  rintro e wk ⟨rfl, hbk⟩
  have HBK := Lib.hid (HB0.out.trans (hbk.mono HB0.out.size))
  clear hbk
  go_wp2
  go_ret
  exact ⟨rfl, HBK.out⟩
set_option maxHeartbeats 4000000 in
theorem sc_name (v : Value) (l : List Tok) (kd : Int) (n : ByteArray) (K V : Int) (kb : Bool) (m : Int) (w : World) (hm : Wq m w) (hT : TR w v l) (hK : i64B K) (hV : i64B V) (h60 : l.length ≤ 60) (h200 : 200 < n.size) :
    Calls Tryz.prog 3 #[v, .agg #[.int .i64 kd, .string n, .int .i64 K, .int .i64 V, .bool kb]] w fun e w' => e = .returned (.bool true) ∧ Below w.heap.size w w' := by
  have l60 : ¬ ((60 : Int) < (l.length : Int)) := by omega
  have l200 : (200 : Int) < (n.size : Int) := by omega
  have HT := Lib.hid hT
  have HKV : Hid (i64B K ∧ i64B V) := Lib.hid ⟨hK, hV⟩
  obtain ⟨a, cap, rfl⟩ := hT.form
  obtain ⟨W0, hW0⟩ : ∃ W0, w.alloc (.cells #[.int .i64 kd, .string n, .int .i64 K, .int .i64 V, .bool kb] 24) = W0 := ⟨_, rfl⟩
  have hb0 : Below w.heap.size w W0 := by rw [← hW0]; exact (Below.refl _ _).alloc (Nat.le_refl _) _
  have hk0 : Blk W0 w.heap.size 24 (cmCells (kd, n, K, V, kb)) := by rw [← hW0]; exact Blk.new _ _ _
  have HB0 := Lib.hid hb0
  have HM0 := Lib.hid (hm.below hb0)
  have HK := Lib.hid hk0
  have HT0 := Lib.hid (HT.out.below hb0)
  obtain ⟨y0, y1, y2, y3, y4⟩ := cm_results _ hk0
  clear hm hT hK hV hb0 hk0
  go_enter Tryz.func3, Tryz.ntmps3
  go_wp2_with fail
  refine (known8_any m _ HM0.out).mono ?_
  rintro e wk ⟨rfl, hbk⟩
  have HBK := Lib.hid (HB0.out.trans (hbk.mono HB0.out.size))
  clear hbk
  go_wp2
  go_ret
  exact ⟨rfl, HBK.out⟩
set_option maxHeartbeats 4000000 in
theorem sc_main (v : Value) (l : List Tok) (kd : Int) (n : ByteArray) (K V : Int) (kb : Bool) (m : Int) (w : World) (hm : Wq m w) (hT : TR w v l) (hK : i64B K) (hV : i64B V) (h60 : l.length ≤ 60) (h200 : n.size ≤ 200) :
    Calls Tryz.prog 3 #[v, .agg #[.int .i64 kd, .string n, .int .i64 K, .int .i64 V, .bool kb]] w fun e w' => e = .returned (.bool true) ∧ Below w.heap.size w w' := by
  have l60 : ¬ ((60 : Int) < (l.length : Int)) := by omega
  have l200 : ¬ ((200 : Int) < (n.size : Int)) := by omega
  have H60 := Lib.hid h60
  have H200 : Hid (n.size ≤ 1000) := Lib.hid (by omega)
  have HT := Lib.hid hT
  have HKV : Hid (i64B K ∧ i64B V) := Lib.hid ⟨hK, hV⟩
  obtain ⟨a, cap, rfl⟩ := hT.form
  obtain ⟨W0, hW0⟩ : ∃ W0, w.alloc (.cells #[.int .i64 kd, .string n, .int .i64 K, .int .i64 V, .bool kb] 24) = W0 := ⟨_, rfl⟩
  have hb0 : Below w.heap.size w W0 := by rw [← hW0]; exact (Below.refl _ _).alloc (Nat.le_refl _) _
  have hk0 : Blk W0 w.heap.size 24 (cmCells (kd, n, K, V, kb)) := by rw [← hW0]; exact Blk.new _ _ _
  have HB0 := Lib.hid hb0
  have HM0 := Lib.hid (hm.below hb0)
  have HK := Lib.hid hk0
  have HT0 := Lib.hid (HT.out.below hb0)
  obtain ⟨y0, y1, y2, y3, y4⟩ := cm_results _ hk0
  clear hm hT h60 h200 hK hV hb0 hk0
  go_enter Tryz.func3, Tryz.ntmps3
  go_wp2_with fail
  clear hW0
  go_loopg [5] l.length (fun gk u5 wx => ∃ (i : Nat), u5 = .int .i64 (i : Int) ∧ i + gk = l.length ∧ wx = W0 ∧ ∀ (j : Nat) (t : Tok), j < i → l[j]? = some t → t.2.1.size ≤ 100)
  case atStart => exact ⟨0, rfl, by omega, rfl, fun j t h => by omega⟩
  case round =>
    obtain ⟨i, rfl, hi, rfl, hsm⟩ := hrel
    have HI := Lib.hid hi
    cases gk with
    | succ gk =>
      have hlt : i < l.length := by omega
      obtain ⟨b2, o2, cp2, he2, hcp2, hx2⟩ := HT0.out.inv l.length rfl (by omega)
      injection he2 with ea2 _ ec2
      subst ea2 ec2
      obtain ⟨t, ht⟩ : ∃ t, l[i] = t := ⟨_, rfl⟩
      have hlt' : l[i]? = some t := by rw [List.getElem?_eq_getElem hlt, ht]
      obtain ⟨x0, x1, x2⟩ := hx2 i t hlt'
      have l0 : (0 : Int) ≤ (i : Int) := by omega
      have l1 : (i : Int) < (l.length : Int) := by omega
      obtain ⟨i1, hi1⟩ : ∃ i1, i + 1 = i1 := ⟨_, rfl⟩
      have wk : IntKind.i64.wrap ((i : Int) + 1) = (i1 : Int) := by rw [show (i : Int) + 1 = (i1 : Int) by omega]; exact IntWalk.i64_in _ (by have := H60.out; omega)
      have HI1 := Lib.hid hi1
      by_cases h100 : 100 < t.2.1.size
      · have l100 : (100 : Int) < (t.2.1.size : Int) := by omega
        clear hi hsm hlt hx2 ht hlt' hi1 h100
        go_wp2_with fail
        refine (known8_any m _ HM0.out).mono ?_
        rintro e wk ⟨rfl, hbk⟩
        have HBK := Lib.hid (HB0.out.trans (hbk.mono HB0.out.size))
        clear hbk
        go_wp2
        go_ret
        exact ⟨rfl, HBK.out⟩
      · have l100 : ¬ ((100 : Int) < (t.2.1.size : Int)) := by omega
        have HSM := Lib.hid (show ∀ (j : Nat) (q : Tok), j < i1 → l[j]? = some q → q.2.1.size ≤ 100 from fun j q hj hq => by
          by_cases hji : j < i
          · exact hsm j q hji hq
          · have : j = i := by omega
            subst this
            rw [hlt'] at hq
            injection hq with hq
            subst hq
            omega)
        clear hi hsm hlt hx2 ht hlt' hi1 h100
        go_wp2
        go_roundg gk
        case measure => exact Nat.lt_succ_self _
        case rel => exact ⟨i1, rfl, by have := HI.out; have := HI1.out; omega, rfl, HSM.out⟩
    | zero =>
      have l1 : ¬ ((i : Int) < (l.length : Int)) := by omega
      have hz : ∀ t ∈ l, t.2.1.size ≤ 100 := fun t ht => by
        obtain ⟨j, hj⟩ := List.getElem?_of_mem ht
        exact hsm j t (by have := (List.getElem?_eq_some_iff.1 hj).1; omega) hj
      obtain ⟨R, hR⟩ : ∃ R, cmdA l = R := ⟨_, rfl⟩
      have HCA := Lib.hid (fun W hW hT => cmdA_same (.slice a l.length cap) l R hR m W hW hT (fun t ht => by have := hz t ht; omega))
      have HCD := Lib.hid (fun W hT => cmdD_same (.slice a l.length cap) l R hR W hT (by have := H60.out; omega) (fun t ht => by have := hz t ht; omega))
      obtain ⟨⟨c0, c1, c2, c3, c4⟩, is⟩ := R
      clear hi hsm hz hR y0 y1 y2 y3 y4
      go_wp2_with fail
      refine (HCA.out _ HM0.out HT0.out).mono ?_
      rintro e w1 ⟨rfl, hb1⟩
      have HB1 := Lib.hid (HB0.out.trans (hb1.mono HB0.out.size))
      have HM1 := Lib.hid (HM0.out.below hb1)
      have HT1 := Lib.hid (HT0.out.below hb1)
      have HK1 := Lib.hid (HK.out.below hb1 (Blk.lt HK.out))
      clear hb1
      go_upto_region 9 with fail
      obtain ⟨g1, hg1⟩ : ∃ g1, w1.heap.size = g1 := ⟨_, rfl⟩
      obtain ⟨W2, hW2⟩ : ∃ W2, w1.alloc (.cells #[.int .i64 c0, .string c1, .int .i64 c2, .int .i64 c3, .bool c4] 24) = W2 := ⟨_, rfl⟩
      have b2 : Below w1.heap.size w1 W2 := by rw [← hW2]; exact (Below.refl _ _).alloc (Nat.le_refl _) _
      have k2 : Blk W2 g1 24 (cmCells (c0, c1, c2, c3, c4)) := by rw [← hW2]; exact Blk.newAt _ _ _ _ hg1
      rw [hW2, hg1]
      have HB2 := Lib.hid (HB1.out.trans (b2.mono HB1.out.size))
      have HM2 := Lib.hid (HM1.out.below b2)
      have HT2 := Lib.hid (HT1.out.below b2)
      have HK2 := Lib.hid (HK1.out.below b2 (Blk.lt HK1.out))
      have HG2 := Lib.hid k2
      clear hW2 hg1 b2 k2
      go_wp2_with fail
      refine (HCD.out _ HT2.out).mono ?_
      rintro e w3 ⟨rfl, hb3⟩
      have HB3 := Lib.hid (HB2.out.trans (hb3.mono HB2.out.size))
      have HM3 := Lib.hid (HM2.out.below hb3)
      have HK3 := Lib.hid (HK2.out.below hb3 (Blk.lt HK2.out))
      have HG3 := Lib.hid (HG2.out.below hb3 (Blk.lt HG2.out))
      clear hb3
      go_upto_region 10 with fail
      obtain ⟨g3, hg3⟩ : ∃ g3, w3.heap.size = g3 := ⟨_, rfl⟩
      obtain ⟨W4, hW4⟩ : ∃ W4, w3.alloc (.cells #[.int .i64 c0, .string c1, .int .i64 c2, .int .i64 c3, .bool c4] 24) = W4 := ⟨_, rfl⟩
      have b4 : Below w3.heap.size w3 W4 := by rw [← hW4]; exact (Below.refl _ _).alloc (Nat.le_refl _) _
      have k4 : Blk W4 g3 24 (cmCells (c0, c1, c2, c3, c4)) := by rw [← hW4]; exact Blk.newAt _ _ _ _ hg3
      rw [hW4, hg3]
      have HB4 := Lib.hid (HB3.out.trans (b4.mono HB3.out.size))
      have HM4 := Lib.hid (HM3.out.below b4)
      have HK4 := Lib.hid (HK3.out.below b4 (Blk.lt HK3.out))
      have HG4 := Lib.hid (HG3.out.below b4 (Blk.lt HG3.out))
      have HD4 := Lib.hid k4
      clear hW4 hg3 b4 k4
      obtain ⟨T, hT⟩ : ∃ T, bb (textC (kd, n, K, V, kb)) = T := ⟨_, rfl⟩
      have HT := Lib.hid hT
      clear hT
      refine wp_region_held_drew (S := (fun w' => Below W4.heap.size W4 w')) (by kernel_rfl) ?_ (fun hS => ?_)
      · exact (Below.refl _ _).drew
      try dsimp only at hS
      refine wpAnyH_take (i := 0) (v := ?_) rfl (by kernel_rfl) (by kernel_rfl) (by kernel_rfl) (fun _ _ _ h => h) (Or.inl ⟨by kernel_rfl, ?_⟩) hS ?_
      rotate_left
      · intro wz hSz; try dsimp only at hSz
        obtain ⟨g0, g1', g2, g3', g4⟩ := cm_results (c0, c1, c2, c3, c4) (HG4.out.below hSz (Blk.lt HG4.out))
        go_simp
        all_goals with_reducible rfl
      try simp only [Act.put, List.getElem_toArray, List.getElem_cons_succ, List.getElem_cons_zero, List.setIfInBounds_toArray, List.set_cons_zero, List.set_cons_succ]
      refine wpAnyH_take (i := 1) (v := ?_) rfl (by kernel_rfl) (by kernel_rfl) (by kernel_rfl) (fun _ _ _ h => h) (Or.inl ⟨by kernel_rfl, ?_⟩) hS ?_
      rotate_left
      · intro wz hSz; try dsimp only at hSz
        obtain ⟨d0, d1, d2, d3, d4⟩ := cm_results (c0, c1, c2, c3, c4) (HD4.out.below hSz (Blk.lt HD4.out))
        go_simp
        all_goals with_reducible rfl
      try simp only [Act.put, List.getElem_toArray, List.getElem_cons_succ, List.getElem_cons_zero, List.setIfInBounds_toArray, List.set_cons_zero, List.set_cons_succ]
      refine wpAnyH_take (i := 2) (v := ?_) rfl (by kernel_rfl) (by kernel_rfl) (by kernel_rfl) (fun _ _ _ h => h) (Or.inl ⟨by kernel_rfl, ?_⟩) hS ?_
      rotate_left
      · intro wz hSz; try dsimp only at hSz
        go_simp
        all_goals with_reducible rfl
      try simp only [Act.put, List.getElem_toArray, List.getElem_cons_succ, List.getElem_cons_zero, List.setIfInBounds_toArray, List.set_cons_zero, List.set_cons_succ]
      refine wpAnyH_take (i := 3) (v := ?_) rfl (by kernel_rfl) (by kernel_rfl) (by kernel_rfl) (fun _ _ _ h => h) (Or.inl ⟨by kernel_rfl, ?_⟩) hS ?_
      rotate_left
      · intro wz hSz; try dsimp only at hSz
        go_simp
        all_goals with_reducible rfl
      try simp only [Act.put, List.getElem_toArray, List.getElem_cons_succ, List.getElem_cons_zero, List.setIfInBounds_toArray, List.set_cons_zero, List.set_cons_succ]
      refine wpAnyH_take (i := 4) (v := ?_) rfl (by kernel_rfl) (by kernel_rfl) (by kernel_rfl) (fun _ _ _ h => h) (Or.inl ⟨by kernel_rfl, ?_⟩) hS ?_
      rotate_left
      · intro wz hSz; try dsimp only at hSz
        go_simp
        all_goals with_reducible rfl
      try simp only [Act.put, List.getElem_toArray, List.getElem_cons_succ, List.getElem_cons_zero, List.setIfInBounds_toArray, List.set_cons_zero, List.set_cons_succ]
      refine wpAnyH_take (i := 5) (v := ?_) rfl (by kernel_rfl) (by kernel_rfl) (by kernel_rfl) (fun _ _ _ h => h) (Or.inl ⟨by kernel_rfl, ?_⟩) hS ?_
      rotate_left
      · intro wz hSz; try dsimp only at hSz
        go_simp
        all_goals with_reducible rfl
      try simp only [Act.put, List.getElem_toArray, List.getElem_cons_succ, List.getElem_cons_zero, List.setIfInBounds_toArray, List.set_cons_zero, List.set_cons_succ]
      refine wpAnyH_take (i := 6) (v := ?_) rfl (by kernel_rfl) (by kernel_rfl) (by kernel_rfl) (fun _ _ _ h => h) (Or.inl ⟨by kernel_rfl, ?_⟩) hS ?_
      rotate_left
      · intro wz hSz; try dsimp only at hSz
        go_simp
        all_goals with_reducible rfl
      try simp only [Act.put, List.getElem_toArray, List.getElem_cons_succ, List.getElem_cons_zero, List.setIfInBounds_toArray, List.set_cons_zero, List.set_cons_succ]
      refine wpAnyH_take (i := 7) (v := ?_) rfl (by kernel_rfl) (by kernel_rfl) (by kernel_rfl) (fun _ _ _ h => h) (Or.inl ⟨by kernel_rfl, ?_⟩) hS ?_
      rotate_left
      · intro wz hSz; try dsimp only at hSz
        go_simp
        all_goals with_reducible rfl
      try simp only [Act.put, List.getElem_toArray, List.getElem_cons_succ, List.getElem_cons_zero, List.setIfInBounds_toArray, List.set_cons_zero, List.set_cons_succ]
      refine wpAnyH_take (i := 8) (v := ?_) rfl (by kernel_rfl) (by kernel_rfl) (by kernel_rfl) (fun _ _ _ h => h) (Or.inl ⟨by kernel_rfl, ?_⟩) hS ?_
      rotate_left
      · intro wz hSz; try dsimp only at hSz
        go_simp
        all_goals with_reducible rfl
      try simp only [Act.put, List.getElem_toArray, List.getElem_cons_succ, List.getElem_cons_zero, List.setIfInBounds_toArray, List.set_cons_zero, List.set_cons_succ]
      refine wpAnyH_take (i := 9) (v := ?_) rfl (by kernel_rfl) (by kernel_rfl) (by kernel_rfl) (fun _ _ _ h => h) (Or.inl ⟨by kernel_rfl, ?_⟩) hS ?_
      rotate_left
      · intro wz hSz; try dsimp only at hSz
        obtain ⟨y0, y1, y2, y3, y4⟩ := cm_results (kd, n, K, V, kb) (HK4.out.below hSz (Blk.lt HK4.out))
        go_simp
        all_goals with_reducible rfl
      try simp only [Act.put, List.getElem_toArray, List.getElem_cons_succ, List.getElem_cons_zero, List.setIfInBounds_toArray, List.set_cons_zero, List.set_cons_succ]
      refine wpAnyH_take (i := 11) (v := ?_) rfl (by kernel_rfl) (by kernel_rfl) (by kernel_rfl) (fun _ _ _ h => h) (Or.inl ⟨by kernel_rfl, ?_⟩) hS ?_
      rotate_left
      · intro wz hSz; try dsimp only at hSz
        obtain ⟨y0, y1, y2, y3, y4⟩ := cm_results (kd, n, K, V, kb) (HK4.out.below hSz (Blk.lt HK4.out))
        go_simp
        all_goals with_reducible rfl
      try simp only [Act.put, List.getElem_toArray, List.getElem_cons_succ, List.getElem_cons_zero, List.setIfInBounds_toArray, List.set_cons_zero, List.set_cons_succ]
      refine wpAnyH_ready (rs := [10]) (by kernel_rfl) (by simp) (AllReadyH.cons rfl (fun K' hK => ?_) AllReadyH.nil)
      go_simp
      refine (textA_same kd n K V kb T HT.out m _ (HM4.out.below hS) H200.out HKV.out.1 HKV.out.2).mono ?_; rintro e w5 ⟨rfl, hbq⟩
      refine hK.out _ _ ?_ (fun hSn => ?_)
      · exact hS.trans (hbq.mono hS.size)
      clear hK K' hS hbq
      have hS := hSn
      clear hSn
      try dsimp only at hS
      try simp only [Act.put, List.getElem_toArray, List.getElem_cons_succ, List.getElem_cons_zero, List.setIfInBounds_toArray, List.set_cons_zero, List.set_cons_succ]
      refine wpAnyH_ready (rs := [12]) (by kernel_rfl) (by simp) (AllReadyH.cons rfl (fun K' hK => ?_) AllReadyH.nil)
      go_simp
      refine (textD_same kd n K V kb T HT.out _ H200.out).mono ?_; rintro e w6 ⟨rfl, hbq⟩
      refine hK.out _ _ ?_ (fun hSn => ?_)
      · exact hS.trans (hbq.mono hS.size)
      clear hK K' hS hbq
      have hS := hSn
      clear hSn
      try dsimp only at hS
      try simp only [Act.put, List.getElem_toArray, List.getElem_cons_succ, List.getElem_cons_zero, List.setIfInBounds_toArray, List.set_cons_zero, List.set_cons_succ]
      refine wpAnyH_take (i := 13) (v := ?_) rfl (by kernel_rfl) (by kernel_rfl) (by kernel_rfl) (fun _ _ _ h => h) (Or.inl ⟨by kernel_rfl, ?_⟩) hS ?_
      rotate_left
      · intro wz hSz; try dsimp only at hSz
        go_simp
        all_goals with_reducible rfl
      try simp only [Act.put, List.getElem_toArray, List.getElem_cons_succ, List.getElem_cons_zero, List.setIfInBounds_toArray, List.set_cons_zero, List.set_cons_succ]
      refine wpAnyH_take (i := 14) (v := ?_) rfl (by kernel_rfl) (by kernel_rfl) (by kernel_rfl) (fun _ _ _ h => h) (Or.inl ⟨by kernel_rfl, ?_⟩) hS ?_
      rotate_left
      · intro wz hSz; try dsimp only at hSz
        go_simp
        all_goals with_reducible rfl
      try simp only [Act.put, List.getElem_toArray, List.getElem_cons_succ, List.getElem_cons_zero, List.setIfInBounds_toArray, List.set_cons_zero, List.set_cons_succ]
      refine wpAnyH_take (i := 15) (v := ?_) rfl (by kernel_rfl) (by kernel_rfl) (by kernel_rfl) (fun _ _ _ h => h) (Or.inl ⟨by kernel_rfl, ?_⟩) hS ?_
      rotate_left
      · intro wz hSz; try dsimp only at hSz
        go_simp
        all_goals with_reducible rfl
      try simp only [Act.put, List.getElem_toArray, List.getElem_cons_succ, List.getElem_cons_zero, List.setIfInBounds_toArray, List.set_cons_zero, List.set_cons_succ]
      refine wpAnyH_ready (rs := [16]) (by kernel_rfl) (by simp) (AllReadyH.cons rfl (fun K' hK => ?_) AllReadyH.nil)
      go_simp
      refine (known8_any m _ (HM4.out.below hS)).mono ?_; rintro e w7 ⟨rfl, hbq⟩
      refine hK.out _ _ ?_ (fun hSn => ?_)
      · exact hS.trans (hbq.mono hS.size)
      clear hK K' hS hbq
      have hS := hSn
      clear hSn
      try dsimp only at hS
      try simp only [Act.put, List.getElem_toArray, List.getElem_cons_succ, List.getElem_cons_zero, List.setIfInBounds_toArray, List.set_cons_zero, List.set_cons_succ]
      refine wpAnyH_take (i := 17) (v := ?_) rfl (by kernel_rfl) (by kernel_rfl) (by kernel_rfl) (fun _ _ _ h => h) (Or.inl ⟨by kernel_rfl, ?_⟩) hS ?_
      rotate_left
      · intro wz hSz; try dsimp only at hSz
        go_simp
        all_goals with_reducible rfl
      try simp only [Act.put, List.getElem_toArray, List.getElem_cons_succ, List.getElem_cons_zero, List.setIfInBounds_toArray, List.set_cons_zero, List.set_cons_succ]
      refine wpAnyH_take (i := 18) (v := ?_) rfl (by kernel_rfl) (by kernel_rfl) (by kernel_rfl) (fun _ _ _ h => h) (Or.inl ⟨by kernel_rfl, ?_⟩) hS ?_
      rotate_left
      · intro wz hSz; try dsimp only at hSz
        go_simp
        all_goals with_reducible rfl
      try simp only [Act.put, List.getElem_toArray, List.getElem_cons_succ, List.getElem_cons_zero, List.setIfInBounds_toArray, List.set_cons_zero, List.set_cons_succ]
      refine wpAnyH_done (by kernel_rfl) ?_ _
      go_wp2
      go_ret
      exact ⟨rfl, HB4.out.trans (hS.mono HB4.out.size)⟩
theorem commands_any (v c : Value) (m : Int) (w : World) (hm : Wq m w) (ht : FitsT w v) (hc : FitsC w c) :
    Calls Tryz.prog 3 #[v, c] w fun e w' => e = .returned (.bool true) ∧ Below w.heap.size w w' := by
  obtain ⟨l, h⟩ := ht
  obtain ⟨kd, n, K, V, kb, rfl, h0, hK, hV, _⟩ := hc
  by_cases h60 : l.length ≤ 60
  · by_cases h200 : n.size ≤ 200
    · exact sc_main v l kd n K V kb m w hm h hK hV h60 h200
    · exact sc_name v l kd n K V kb m w hm h hK hV h60 (by omega)
  · exact sc_long v l kd n K V kb m w hm h hK hV (by omega)
end Go.Proofs.YtjloookjlnmgdaaGreatDoor
