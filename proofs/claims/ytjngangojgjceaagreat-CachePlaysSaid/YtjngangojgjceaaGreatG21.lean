/- Package cache's calls, each as one plain word. Conditions: how long keys and values are, how many puts there were.
   Layer 12's known is true. No condition.
   Keys and lists of operations among the arguments of layer 12's laws. No condition.
   Keys held against each other. No condition. -/
import Derived.Test.YtjngangojgjceaaGreatG20
import Derived.Deep.Slices
import Derived.Deep.Fields
import Derived.SizedLaws
set_option linter.unusedSimpArgs false
set_option linter.unusedVariables false
namespace Go.Proofs.YtjngangojgjceaaGreat.CA
open Go.ChangeShapes Go.WideShapes Go.ChangeAt Go.RowKit Go.Maps Go.ChangeMaps
open Go.Proofs.YtjngangojgjceaaGreat.SL Go.Proofs.YtjngangojgjceaaGreat.EX Go.Proofs.YtjngangojgjceaaGreat.RW
set_option maxRecDepth 100000
set_option linter.unusedVariables false
set_option linter.unusedSimpArgs false

open Classical in
/-- what a Get tells, and makes -/
noncomputable def getR (ke : Int) (k : Ky) (now : Int) (s : Sg) : Option ByteArray × Sg :=
  match fV s.V k with
  | none => (none, s)
  | some e => if (atI (textK k) s.I).getD 0 ≤ now then (none, dropS (textK k) s) else (some e.2, touchS ke (textK k) ((hasS (textK k) s.T s.K).getD 0) s)
/-- is a Put right? -/
def putOk (k : Ky) (now : Int) : Prop := rightK k = true ∧ 0 ≤ now ∧ now ≤ 549755813888
open Classical in
/-- what a Put tells, and makes -/
noncomputable def putR (al mo ttl : Int) (k : Ky) (v : ByteArray) (now : Int) (s : Sg) : (Int × List ByteArray) × Sg :=
  if putOk k now then
    if szK k v ≤ mo then ((0, (putS al (textK k) v (szK k v) (now + ttl) s).2), (putS al (textK k) v (szK k v) (now + ttl) s).1) else ((2, []), s)
  else ((1, []), s)
def getV (o : Option ByteArray) : Value := .tuple #[.string (o.getD ⟨#[]⟩), .bool o.isSome]
def kSh (k : Ky) : Prop := k.1.size + k.2.1.size + k.2.2.2.size ≤ 3995 ∧ (-9223372036854775808 ≤ k.2.2.1 ∧ k.2.2.1 ≤ 9223372036854775807)
theorem kSh.fit {k : Ky} (h : kSh k) : FitK k := ⟨by have := h.1; omega, by have := h.1; omega, by have := h.1; omega, h.2⟩
theorem kSh.text {k : Ky} (h : kSh k) (hr : rightK k = true) : (textK k).size ≤ 4000 := by rw [text_size hr]; have := h.1; omega
/-- what a cache is made of -/
def okD (C : Cb) : Prop := okC C.al C.ke C.mo C.ttl
section
variable {w0 w w' : World} {C : Cb} {N : Nat} {σ : Sg} {O : List Kp}
theorem InvS.kle {al ke : Int} {s : Sg} (h : InvS al ke s) : kLe s.T ∧ kLe s.K ∧ kLI s.I :=
  ⟨fun y hy => by have := (h.ok y.1 ((h.st y.1).1 (.inl (mem_keysE.2 ⟨y, hy, rfl⟩)))).2; omega, fun y hy => by have := (h.ok y.1 ((h.st y.1).1 (.inr (mem_keysE.2 ⟨y, hy, rfl⟩)))).2; omega,
    fun y hy => by have := (h.ok y.1 ((h.qu y.1).1 (mem_keysI.2 ⟨y, hy, rfl⟩))).2; omega⟩
theorem getR_inv {al ke : Int} {s : Sg} (h : InvS al ke s) (hke : 0 ≤ ke) (hT : posE s.T) (hK : posE s.K) (k : Ky) (now : Int) : InvS al ke (getR ke k now s).2 := by
  unfold getR
  cases hf : fV s.V k with
  | none => exact h
  | some e =>
    simp only
    obtain ⟨hr, _, hV⟩ := fV_some hf
    split
    · exact h.drop hT hK _
    · have hh : (hasS (textK k) s.T s.K).isSome = true := has_iff.2 ((h.st _).2 (by rw [hV]; rfl))
      obtain ⟨z, hz⟩ := Option.isSome_iff_exists.1 hh
      refine h.touch hke hT hK ?_
      rw [hz]; rfl
theorem lc_get (h : LC w0 w C N σ O) (hi : InvS C.al C.ke σ) (hke : 0 ≤ C.ke) (k : Ky) (hk : FitK k) (hN : N ≤ 480) (now : Int) (R : Option ByteArray × Sg) (hR : getR C.ke k now σ = R) :
    Calls Tryz.prog 12 #[ptr C.g, kyV k, .int .i64 now] w (RetC w0 C N R.2 O (getV R.1)) := by
  subst hR
  unfold getR
  cases hf : fV σ.V k with
  | none => exact lc_get_no h k hk now hf
  | some e =>
    simp only
    obtain ⟨hr, he, hV⟩ := fV_some hf
    have hs : (σ.V (textK k)).isSome = true := by rw [hV]; rfl
    obtain ⟨u, hu⟩ := Option.isSome_iff_exists.1 (at_iff.2 ((hi.qu _).2 hs))
    obtain ⟨z, hz⟩ := Option.isSome_iff_exists.1 (has_iff.2 ((hi.st _).2 hs))
    rw [hu, hz]
    simp only [Option.getD_some]
    by_cases hn : u ≤ now
    · rw [if_pos hn]
      exact lc_get_old h k hk hN now e hf u hu hn
    · rw [if_neg hn]
      obtain ⟨et, ev⟩ := e
      obtain ⟨⟨T9, K9, G⟩, hR⟩ : ∃ R, touchE C.ke (textK k) z σ.T σ.K = R := ⟨_, rfl⟩
      have := lc_get_yes h k hk hN now et ev hf u hu (by omega) ⟨hke, hi.sk⟩ z hz T9 K9 G hR
      unfold touchS
      rw [hR]
      exact this
theorem put_there {al ke : Int} {s : Sg} (h : InvS al ke s) (hu : UK s.T s.K) {t : ByteArray} {z : Int} {R : List En × List En × List ByteArray} (hR : putE al t z s.T s.K = R) : There R.2.2 s ∧ t ∉ R.2.2 := by
  obtain ⟨p1, p2, p3⟩ := put_keys hu hR
  have hv : ∀ x ∈ R.2.2, (s.V x).isSome = true := fun x hx => (h.st x).1 (p2 x hx).1
  exact ⟨⟨p3, fun x hx => h.ok x (hv x hx), hv⟩, fun hx => (p2 t hx).2.1 rfl⟩
/-- what a Put tells of keys -/
def PutP (w0 : World) (C : Cb) (N : Nat) (R : (Int × List ByteArray) × Sg) (O : List Kp) (e : Ending) (w' : World) : Prop :=
  ∃ a c, e = .returned (.tuple #[.slice a (R.1.2.map parK).length c, .int .i64 R.1.1]) ∧ LC w0 w' C (N + 3) R.2 (Kk w0.heap.size (.slice a (R.1.2.map parK).length c) (R.1.2.map parK) :: O)
theorem LC.nilK (h : LC w0 w C N σ O) : LC w0 w C N σ (Kk w0.heap.size (.slice none 0 0) [] :: O) := by
  obtain ⟨c, h1, h2, h3⟩ := h
  refine ⟨c, h1, h2, fun p hp => ?_⟩
  rcases List.mem_cons.1 hp with rfl | hp
  · refine ⟨KO.nil _ _ _, ?_, ?_⟩
    · intro b hb
      have hb : (Value.slice none 0 0).ownBlock = some b := hb
      cases hb
    · intro w1 w2 h1 hk
      exact KO.keepB h1 hk
  · exact h3 p hp
theorem lc_put (h : LC w0 w C N σ O) (hi : InvS C.al C.ke σ) (hC : okD C) (k : Ky) (hk : kSh k) (v : ByteArray) (hv : v.size ≤ 1099511627776) (hN : N ≤ 470) (now : Int) (R : (Int × List ByteArray) × Sg) (hR : putR C.al C.mo C.ttl k v now σ = R) :
    Calls Tryz.prog 8 #[ptr C.g, kyV k, .string v, .int .i64 now] w (PutP w0 C N R O) := by
  subst hR
  have hf := h.facts
  obtain ⟨⟨b1, b2, b3, b4, b5, b6⟩, b7, b8⟩ := hC
  unfold putR
  by_cases hp : putOk k now
  · rw [if_pos hp]
    obtain ⟨hr, hw1, hw2⟩ := hp
    by_cases hz : szK k v ≤ C.mo
    · rw [if_pos hz]
      obtain ⟨⟨T9, K9, G⟩, hR⟩ : ∃ R, putE C.al (textK k) (szK k v) σ.T σ.K = R := ⟨_, rfl⟩
      obtain ⟨q1, q2⟩ := put_there hi hf.1 hR
      refine (lc_put_yes h k hk.fit v hv now hr ⟨hw1, hw2⟩ _ rfl hz (hk.text hr) hN ⟨b6, b2⟩ ⟨b7, b8⟩ hi.kle.1 hi.kle.2.1 T9 K9 G hR q1 q2 _ rfl).mono ?_
      rintro e w' ⟨a, c, rfl, h'⟩
      unfold PutP putS
      rw [hR]
      exact ⟨a, c, rfl, h'⟩
    · rw [if_neg hz]
      refine (lc_put_big h k hk.fit v hv now hr ⟨hw1, hw2⟩ _ rfl (by omega)).mono ?_
      rintro e w' ⟨rfl, h'⟩
      exact ⟨none, 0, rfl, (h'.mono (by omega)).nilK⟩
  · rw [if_neg hp]
    refine (lc_put_arg h k hk.fit v now ?_).mono ?_
    · cases hr : rightK k with
      | false => exact .inl rfl
      | true =>
        right
        by_cases h1 : now < 0
        · exact .inl h1
        · right
          by_cases h2 : now ≤ 549755813888
          · exact absurd ⟨hr, by omega, h2⟩ hp
          · omega
    · rintro e w' ⟨rfl, h'⟩
      exact ⟨none, 0, rfl, (h'.mono (by omega)).nilK⟩
theorem putR_inv {al ke mo ttl : Int} {s : Sg} (h : InvS al ke s) (hm : mo ≤ al) (hu : UK s.T s.K) (hT : posE s.T) (hK : posE s.K) (k : Ky) (hk : kSh k) (v : ByteArray) (now : Int) : InvS al ke (putR al mo ttl k v now s).2 := by
  unfold putR
  split
  · rename_i hp
    split
    · rename_i hz
      exact h.put hu hT hK ⟨ok_text hp.1, hk.text hp.1⟩ (by omega)
    · exact h
  · exact h
theorem tick_there {al ke : Int} {s : Sg} (h : InvS al ke s) (hn : (keysI s.I).Nodup) (now : Int) : There (keysI (leI now s.I)) ⟨s.T, s.K, gtI now s.I, s.V⟩ := by
  have hv : ∀ x ∈ keysI (leI now s.I), (s.V x).isSome = true := fun x hx => by
    obtain ⟨y, hy, rfl⟩ := mem_keysI.1 hx
    exact (h.qu _).1 (mem_keysI.2 ⟨y, (List.mem_filter.1 hy).1, rfl⟩)
  refine ⟨?_, fun x hx => h.ok x (hv x hx), hv⟩
  unfold keysI leI at *
  exact hn.sublist (List.filter_sublist.map _)
theorem tick_inv {al ke : Int} {s : Sg} (h : InvS al ke s) (hn : (keysI s.I).Nodup) (hT : posE s.T) (hK : posE s.K) (now : Int) : InvS al ke (tickS now s) := by
  rw [tick_is hn]; exact h.drops hT hK _
theorem lc_tickS (h : LC w0 w C N σ O) (hi : InvS C.al C.ke σ) (hN : N ≤ 480) (now : Int) (l : List ByteArray) (hl : keysI (leI now σ.I) = l) (σ' : Sg) (hσ : tickS now σ = σ') :
    Calls Tryz.prog 16 #[ptr C.g, .int .i64 now] w (ForP w0 C N σ' O (l.map parK)) := by
  subst hl
  exact lc_tick h hN now hi.kle.2.2 _ rfl (tick_there hi h.facts.2.2.2.1 now) σ' hσ
/-- all texts: those of the kept segment first -/
def allS (s : Sg) : List ByteArray := keysE s.K ++ keysE s.T
def flushS (s : Sg) : Sg := dropsS (allS s) s
theorem all_there {al ke : Int} {s : Sg} (h : InvS al ke s) (hu : UK s.T s.K) : There (allS s) s := by
  have hv : ∀ x ∈ allS s, (s.V x).isSome = true := fun x hx => (h.st x).1 ((List.mem_append.1 hx).symm)
  refine ⟨?_, fun x hx => h.ok x (hv x hx), hv⟩
  exact List.nodup_append.2 ⟨hu.k, hu.t, fun a ha b hb e => hu.ap b hb (e ▸ ha)⟩
theorem lc_flushS (h : LC w0 w C N σ O) (hi : InvS C.al C.ke σ) (hN : N ≤ 480) (n : Nat) (hn : (allS σ).length = n) (σ' : Sg) (hσ : flushS σ = σ') :
    Calls Tryz.prog 18 #[ptr C.g] w (RetC w0 C N σ' O (.int .i64 (n : Int))) := by
  subst hn hσ
  exact lc_flush h hN _ rfl (all_there hi h.facts.1)
theorem lc_keysS (h : LC w0 w C N σ O) (hi : InvS C.al C.ke σ) (l : List ByteArray) (hl : allS σ = l) :
    Calls Tryz.prog 21 #[ptr C.g] w (KeysC (l.map parK) w) := by
  subst hl
  exact lc_keys h _ rfl fun x hx => (hi.ok x ((h.facts |> fun f => (all_there hi f.1).vs) x hx)).2
/-- what a Drop tells, and makes -/
def dropR (k : Ky) (s : Sg) : Bool × Sg := match fV s.V k with | none => (false, s) | some _ => (true, dropS (textK k) s)
theorem lc_dropR (h : LC w0 w C N σ O) (k : Ky) (hk : FitK k) (hN : N ≤ 480) (R : Bool × Sg) (hR : dropR k σ = R) :
    Calls Tryz.prog 14 #[ptr C.g, kyV k] w (RetC w0 C N R.2 O (.bool R.1)) := by
  subst hR
  unfold dropR
  cases hf : fV σ.V k with
  | none => exact lc_drop_no h k hk hf
  | some e => exact lc_drop_yes h k hk hN e hf
theorem dropR_inv {al ke : Int} {s : Sg} (h : InvS al ke s) (hT : posE s.T) (hK : posE s.K) (k : Ky) : InvS al ke (dropR k s).2 := by
  unfold dropR
  cases fV s.V k with
  | none => exact h
  | some e => exact h.drop hT hK _
end
end Go.Proofs.YtjngangojgjceaaGreat.CA
namespace Go.Proofs.YtjngangojgjceaaGreat.CA
open Go.ChangeShapes Go.WideShapes Go.ChangeAt Go.RowKit Go.Maps Go.ChangeMaps
open Go.Proofs.YtjngangojgjceaaGreat.SL Go.Proofs.YtjngangojgjceaaGreat.EX Go.Proofs.YtjngangojgjceaaGreat.RW
set_option maxRecDepth 100000
set_option linter.unusedVariables false
set_option linter.unusedSimpArgs false

def kA : Ky := (⟨#[100]⟩, ⟨#[114]⟩, 0, ⟨#[113]⟩)
def kB : Ky := (⟨#[100]⟩, ⟨#[114]⟩, 1, ⟨#[113]⟩)
def tA : ByteArray := ⟨#[100, 0, 114, 0, 0, 0, 113, 0]⟩
def tB : ByteArray := ⟨#[100, 0, 114, 0, 0, 1, 113, 0]⟩
def vA : ByteArray := ⟨#[118]⟩
theorem xa1 : rightK kA = true := by kernel_rfl
theorem xa2 : textK kA = tA := by kernel_rfl
theorem xa3 : szK kA vA = 25 := by kernel_rfl
theorem xb1 : rightK kB = true := by kernel_rfl
theorem xb2 : textK kB = tB := by kernel_rfl
theorem xab : tB ≠ tA := by
  intro h
  have : decide (tB = tA) = false := by kernel_rfl
  rw [decide_eq_true h] at this; cases this
theorem shA : kSh kA := ⟨by decide, by decide, by decide⟩
theorem shB : kSh kB := ⟨by decide, by decide, by decide⟩
def s1 : Sg := ⟨[(tA, 25)], [], [(tA, 8)], setV tA vA fun _ => none⟩
def s2 : Sg := ⟨[], [(tA, 25)], [(tA, 8)], setV tA vA fun _ => none⟩
theorem y1 : putR 100 60 3 kA vA 5 emS = ((0, []), s1) := by
  unfold putR
  rw [if_pos ⟨xa1, by decide, by decide⟩, xa3, if_pos (by decide), xa2]
  unfold putS
  have h1 : putE 100 tA 25 [] [] = ([(tA, 25)], [], []) := by kernel_rfl
  have h2 : setI tA 8 [] = [(tA, 8)] := by kernel_rfl
  show (((0 : Int), (putE 100 tA 25 [] []).2.2), dropsS (putE 100 tA 25 [] []).2.2 ⟨(putE 100 tA 25 [] []).1, (putE 100 tA 25 [] []).2.1, setI tA (5 + 3) [], setV tA vA fun _ => none⟩) = _
  rw [h1, show (5 : Int) + 3 = 8 from rfl, h2]
  rfl
theorem fA (T K : List En) (I : List It) : fV (⟨T, K, I, setV tA vA fun _ => none⟩ : Sg).V kA = some (tA, vA) := by
  unfold fV
  rw [if_pos xa1, xa2]
  show ((setV tA vA fun _ => none) tA).map _ = _
  unfold setV
  rw [if_pos rfl]; rfl
theorem fB (T K : List En) (I : List It) : fV (⟨T, K, I, setV tA vA fun _ => none⟩ : Sg).V kB = none := by
  unfold fV
  rw [if_pos xb1, xb2]
  show ((setV tA vA fun _ => none) tB).map _ = _
  unfold setV
  rw [if_neg xab]; rfl
theorem y2 : getR 60 kA 7 s1 = (some vA, s2) := by
  unfold getR
  rw [show fV s1.V kA = some (tA, vA) from fA _ _ _]
  simp only
  rw [xa2, show atI tA s1.I = some 8 by kernel_rfl, show hasS tA s1.T s1.K = some 25 by kernel_rfl]
  simp only [Option.getD_some]
  rw [if_neg (by decide)]
  unfold touchS
  have h1 : touchE 60 tA 25 s1.T s1.K = ([], [(tA, 25)], []) := by kernel_rfl
  rw [h1]; rfl
theorem y3 : getR 60 kB 7 s2 = (none, s2) := by
  unfold getR
  rw [show fV s2.V kB = none from fB _ _ _]
theorem y4 : getR 60 kA 8 s2 = (none, dropS tA s2) := by
  unfold getR
  rw [show fV s2.V kA = some (tA, vA) from fA _ _ _]
  simp only
  rw [xa2, show atI tA s2.I = some 8 by kernel_rfl]
  simp only [Option.getD_some]
  rw [if_pos (by decide)]
theorem z2 : sumE s2.T + sumE s2.K = 25 := by kernel_rfl
theorem z4 : sumE (dropS tA s2).T + sumE (dropS tA s2).K = 0 := by kernel_rfl
theorem okA (C : Cb) (h1 : C.al = 100) (h2 : C.ke = 60) (h3 : C.mo = 60) (h4 : C.ttl = 3) : okD C := by
  unfold okD okC okB
  rw [h1, h2, h3, h4]
  refine ⟨⟨?_, ?_, ?_, ?_, ?_, ?_⟩, ?_, ?_⟩ <;> decide
set_option maxHeartbeats 8000000 in
theorem known_any (w : World) :
    Calls Tryz.prog 25 #[] w fun e w' => e = .returned (.bool true) ∧ Below w.heap.size w w' := by
  go_enter Tryz.func25, Tryz.ntmps25
  go_wp2_with fail
  refine (CA.new_yes w w (Below.refl _ _) 100 60 60 3 ⟨⟨by decide, by decide, by decide, by decide, by decide, by decide⟩, by decide, by decide⟩).mono ?_
  rintro e w1 ⟨C, rfl, q1, q2, q3, q4, hh, _⟩
  have i0 : InvS C.al C.ke emS := by rw [q1, q2]; exact InvS.nil ⟨by decide, by decide⟩
  have hC := okA C q1 q2 q3 q4
  have hke : 0 ≤ C.ke := by rw [q2]; decide
  have e1 : putR C.al C.mo C.ttl kA vA 5 emS = ((0, []), s1) := by rw [q1, q3, q4]; exact y1
  have e2 : getR C.ke kA 7 s1 = (some vA, s2) := by rw [q2]; exact y2
  have e3 : getR C.ke kB 7 s2 = (none, s2) := by rw [q2]; exact y3
  have e4 : getR C.ke kA 8 s2 = (none, dropS tA s2) := by rw [q2]; exact y4
  have i1 : InvS C.al C.ke s1 := by
    have hf := hh.facts
    have := putR_inv i0 hC.1.2.2.2.2.2 hf.1 hf.2.1 hf.2.2.1 kA shA vA 5 (mo := C.mo) (ttl := C.ttl)
    rw [e1] at this; exact this
  have H := Lib.hid hh
  have HI0 := Lib.hid i0
  have HI1 := Lib.hid i1
  have HC := Lib.hid hC
  have HKE := Lib.hid hke
  have HE1 := Lib.hid e1
  have HE2 := Lib.hid e2
  have HE3 := Lib.hid e3
  have HE4 := Lib.hid e4
  clear q1 q2 q3 q4 hh i0 i1 hC hke e1 e2 e3 e4
  go_wp2_with fail
  refine (CA.new_no _ 100 60 60 0 (fun h => absurd h.2.1 (by decide))).mono ?_
  rintro e w2 ⟨rfl, hb⟩
  have H := Lib.hid (H.out.below hb)
  clear hb
  obtain ⟨W3, hW3⟩ : ∃ W, w2.alloc (.cells #[.string ⟨#[100]⟩, .string ⟨#[114]⟩, .int .i64 0, .string ⟨#[113]⟩] 32) = W := ⟨_, rfl⟩
  obtain ⟨kb, hkb⟩ : ∃ b, w2.heap.size = b := ⟨_, rfl⟩
  have hb3 : Below w2.heap.size w2 W3 := by rw [← hW3]; exact (Below.refl _ _).alloc (Nat.le_refl _) _
  have ke : Bk W3 kb 32 (kC kA) := by rw [← hW3, ← hkb]; exact Bk.new _ _ _
  have H := Lib.hid (H.out.blkO hb3 (Nat.le_of_eq hkb) ke)
  have a0 : W3.cell? ⟨kb, 0, none⟩ = some (.string ⟨#[100]⟩) := ke.cell 0
  have a1 : W3.cell? ⟨kb, 1, none⟩ = some (.string ⟨#[114]⟩) := ke.cell 1
  have a2 : W3.cell? ⟨kb, 2, none⟩ = some (.int .i64 0) := ke.cell 2
  have a3 : W3.cell? ⟨kb, 3, none⟩ = some (.string ⟨#[113]⟩) := ke.cell 3
  clear hb3 ke
  go_wp2_with fail
  try rw [hW3]
  try rw [hkb]
  refine (lc_put H.out HI0.out HC.out kA shA vA (by decide) (by decide) 5 _ HE1.out).mono ?_
  rintro e w4 ⟨pa, pc, rfl, h4⟩
  have H := Lib.hid (h4.forget (O' := [.blk kb 32 (kC kA)]) fun p hp => List.mem_cons_of_mem _ hp)
  clear h4 hW3 hkb a0 a1 a2 a3
  have ke := H.out.blk (List.mem_cons_self ..)
  have a0 : w4.cell? ⟨kb, 0, none⟩ = some (.string ⟨#[100]⟩) := ke.cell 0
  have a1 : w4.cell? ⟨kb, 1, none⟩ = some (.string ⟨#[114]⟩) := ke.cell 1
  have a2 : w4.cell? ⟨kb, 2, none⟩ = some (.int .i64 0) := ke.cell 2
  have a3 : w4.cell? ⟨kb, 3, none⟩ = some (.string ⟨#[113]⟩) := ke.cell 3
  clear ke
  go_wp2_with fail
  refine (show Calls _ _ _ _ (RetC w C _ _ _ (.tuple #[.string vA, .bool true])) from lc_get H.out HI1.out HKE.out kA shA.fit (by decide) 7 _ HE2.out).mono ?_
  rintro e w5 ⟨rfl, h5⟩
  have i2 : InvS C.al C.ke s2 := by
    have hf := H.out.facts
    have := getR_inv HI1.out HKE.out hf.2.1 hf.2.2.1 kA 7
    rw [HE2.out] at this; exact this
  have HI2 := Lib.hid i2
  have H := Lib.hid h5
  clear h5 i2 a0 a1 a2 a3
  have ke := H.out.blk (List.mem_cons_self ..)
  have a0 : w5.cell? ⟨kb, 0, none⟩ = some (.string ⟨#[100]⟩) := ke.cell 0
  have a1 : w5.cell? ⟨kb, 1, none⟩ = some (.string ⟨#[114]⟩) := ke.cell 1
  have a2 : w5.cell? ⟨kb, 2, none⟩ = some (.int .i64 0) := ke.cell 2
  have a3 : w5.cell? ⟨kb, 3, none⟩ = some (.string ⟨#[113]⟩) := ke.cell 3
  clear ke
  go_wp2_with fail
  refine (show Calls _ _ _ _ (RetC w C _ _ _ (.tuple #[.string ⟨#[]⟩, .bool false])) from lc_get H.out HI2.out HKE.out kB shB.fit (by decide) 7 _ HE3.out).mono ?_
  rintro e w6 ⟨rfl, h6⟩
  have H := Lib.hid h6
  clear h6 a0 a1 a2 a3
  have ke := H.out.blk (List.mem_cons_self ..)
  have a0 : w6.cell? ⟨kb, 0, none⟩ = some (.string ⟨#[100]⟩) := ke.cell 0
  have a1 : w6.cell? ⟨kb, 1, none⟩ = some (.string ⟨#[114]⟩) := ke.cell 1
  have a2 : w6.cell? ⟨kb, 2, none⟩ = some (.int .i64 0) := ke.cell 2
  have a3 : w6.cell? ⟨kb, 3, none⟩ = some (.string ⟨#[113]⟩) := ke.cell 3
  clear ke
  go_wp2_with fail
  refine (lc_bytes H.out 25 z2).mono ?_
  rintro e w7 ⟨rfl, b7⟩
  have H := Lib.hid (H.out.below b7)
  clear b7 a0 a1 a2 a3
  have ke := H.out.blk (List.mem_cons_self ..)
  have a0 : w7.cell? ⟨kb, 0, none⟩ = some (.string ⟨#[100]⟩) := ke.cell 0
  have a1 : w7.cell? ⟨kb, 1, none⟩ = some (.string ⟨#[114]⟩) := ke.cell 1
  have a2 : w7.cell? ⟨kb, 2, none⟩ = some (.int .i64 0) := ke.cell 2
  have a3 : w7.cell? ⟨kb, 3, none⟩ = some (.string ⟨#[113]⟩) := ke.cell 3
  clear ke
  go_wp2_with fail
  refine (show Calls _ _ _ _ (RetC w C _ _ _ (.tuple #[.string ⟨#[]⟩, .bool false])) from lc_get H.out HI2.out HKE.out kA shA.fit (by decide) 8 _ HE4.out).mono ?_
  rintro e w8 ⟨rfl, h8⟩
  have H := Lib.hid h8
  clear h8 a0 a1 a2 a3
  have ke := H.out.blk (List.mem_cons_self ..)
  have a0 : w8.cell? ⟨kb, 0, none⟩ = some (.string ⟨#[100]⟩) := ke.cell 0
  have a1 : w8.cell? ⟨kb, 1, none⟩ = some (.string ⟨#[114]⟩) := ke.cell 1
  have a2 : w8.cell? ⟨kb, 2, none⟩ = some (.int .i64 0) := ke.cell 2
  have a3 : w8.cell? ⟨kb, 3, none⟩ = some (.string ⟨#[113]⟩) := ke.cell 3
  clear ke
  have HTX := Lib.hid (fun W => text_any kA shA.fit W)
  rw [show txt kA = tA by kernel_rfl] at HTX
  have HPX := Lib.hid (fun W => parse_any tA (by decide) W)
  unfold ParP at HPX
  rw [show parK tA = kA by kernel_rfl, show okP tA = true by kernel_rfl, show kyV kA = .agg #[.string ⟨#[100]⟩, .string ⟨#[114]⟩, .int .i64 0, .string ⟨#[113]⟩] from rfl] at HPX
  have HSX := Lib.hid (fun W => CA.size_any kA vA shA.fit (by decide) W)
  rw [xa3] at HSX
  go_wp2_with fail
  refine (HTX.out _).mono ?_
  rintro e w9 ⟨rfl, b9⟩
  have H := Lib.hid (H.out.below b9)
  clear b9 a0 a1 a2 a3
  have ke := H.out.blk (List.mem_cons_self ..)
  have a0 : w9.cell? ⟨kb, 0, none⟩ = some (.string ⟨#[100]⟩) := ke.cell 0
  have a1 : w9.cell? ⟨kb, 1, none⟩ = some (.string ⟨#[114]⟩) := ke.cell 1
  have a2 : w9.cell? ⟨kb, 2, none⟩ = some (.int .i64 0) := ke.cell 2
  have a3 : w9.cell? ⟨kb, 3, none⟩ = some (.string ⟨#[113]⟩) := ke.cell 3
  clear ke
  go_wp2_with fail
  refine (HPX.out _).mono ?_
  rintro e w10 ⟨rfl, b10⟩
  have H := Lib.hid (H.out.below b10)
  obtain ⟨W11, hW11⟩ : ∃ W, w10.alloc (.cells #[.string ⟨#[100]⟩, .string ⟨#[114]⟩, .int .i64 0, .string ⟨#[113]⟩] 32) = W := ⟨_, rfl⟩
  obtain ⟨nb, hnb⟩ : ∃ b, w10.heap.size = b := ⟨_, rfl⟩
  have hb11 : Below w10.heap.size w10 W11 := by rw [← hW11]; exact (Below.refl _ _).alloc (Nat.le_refl _) _
  have kn : Bk W11 nb 32 (kC kA) := by rw [← hW11, ← hnb]; exact Bk.new _ _ _
  have H := Lib.hid ((H.out.blkO hb11 (Nat.le_of_eq hnb) kn).forget (O' := [.blk kb 32 (kC kA), .blk nb 32 (kC kA)]) (by intro p hp; simp at hp ⊢; exact hp.symm))
  clear b10 hb11 kn a0 a1 a2 a3
  have ke := H.out.blk (List.mem_cons_self ..)
  have a0 : W11.cell? ⟨kb, 0, none⟩ = some (.string ⟨#[100]⟩) := ke.cell 0
  have a1 : W11.cell? ⟨kb, 1, none⟩ = some (.string ⟨#[114]⟩) := ke.cell 1
  have a2 : W11.cell? ⟨kb, 2, none⟩ = some (.int .i64 0) := ke.cell 2
  have a3 : W11.cell? ⟨kb, 3, none⟩ = some (.string ⟨#[113]⟩) := ke.cell 3
  clear ke
  have n0 : W11.cell? ⟨nb, 0, none⟩ = some (.string ⟨#[100]⟩) := (H.out.blk (List.mem_cons_of_mem _ (List.mem_cons_self ..))).cell 0
  have n1 : W11.cell? ⟨nb, 1, none⟩ = some (.string ⟨#[114]⟩) := (H.out.blk (List.mem_cons_of_mem _ (List.mem_cons_self ..))).cell 1
  have n2 : W11.cell? ⟨nb, 2, none⟩ = some (.int .i64 0) := (H.out.blk (List.mem_cons_of_mem _ (List.mem_cons_self ..))).cell 2
  have n3 : W11.cell? ⟨nb, 3, none⟩ = some (.string ⟨#[113]⟩) := (H.out.blk (List.mem_cons_of_mem _ (List.mem_cons_self ..))).cell 3
  have lv : vA.toList = [118] := by rw [Lib.toList_data]; rfl
  have lt : tA.toList = [100, 0, 114, 0, 0, 0, 113, 0] := by rw [Lib.toList_data]; rfl
  go_wp2_with fail
  try rw [hW11]
  try rw [hnb]
  refine (lc_bytes H.out 0 z4).mono ?_
  rintro e w12 ⟨rfl, b12⟩
  have H := Lib.hid (H.out.below b12)
  clear b12 a0 a1 a2 a3 n0 n1 n2 n3 hW11 hnb
  have ke := H.out.blk (List.mem_cons_self ..)
  have a0 : w12.cell? ⟨kb, 0, none⟩ = some (.string ⟨#[100]⟩) := ke.cell 0
  have a1 : w12.cell? ⟨kb, 1, none⟩ = some (.string ⟨#[114]⟩) := ke.cell 1
  have a2 : w12.cell? ⟨kb, 2, none⟩ = some (.int .i64 0) := ke.cell 2
  have a3 : w12.cell? ⟨kb, 3, none⟩ = some (.string ⟨#[113]⟩) := ke.cell 3
  have kn := H.out.blk (List.mem_cons_of_mem _ (List.mem_cons_self ..))
  have n0 : w12.cell? ⟨nb, 0, none⟩ = some (.string ⟨#[100]⟩) := kn.cell 0
  have n1 : w12.cell? ⟨nb, 1, none⟩ = some (.string ⟨#[114]⟩) := kn.cell 1
  have n2 : w12.cell? ⟨nb, 2, none⟩ = some (.int .i64 0) := kn.cell 2
  have n3 : w12.cell? ⟨nb, 3, none⟩ = some (.string ⟨#[113]⟩) := kn.cell 3
  clear ke kn
  go_wp2_with fail
  refine (HTX.out _).mono ?_
  rintro e w13 ⟨rfl, b13⟩
  have H := Lib.hid (H.out.below b13)
  clear b13 a0 a1 a2 a3 n0 n1 n2 n3
  have ke := H.out.blk (List.mem_cons_self ..)
  have a0 : w13.cell? ⟨kb, 0, none⟩ = some (.string ⟨#[100]⟩) := ke.cell 0
  have a1 : w13.cell? ⟨kb, 1, none⟩ = some (.string ⟨#[114]⟩) := ke.cell 1
  have a2 : w13.cell? ⟨kb, 2, none⟩ = some (.int .i64 0) := ke.cell 2
  have a3 : w13.cell? ⟨kb, 3, none⟩ = some (.string ⟨#[113]⟩) := ke.cell 3
  clear ke
  go_wp2_with fail
  refine (HSX.out _).mono ?_
  rintro e w14 ⟨rfl, b14⟩
  have H := Lib.hid (H.out.below b14)
  clear b14 a0 a1 a2 a3
  go_wp2
  go_ret
  exact ⟨rfl, H.out.bel⟩
end Go.Proofs.YtjngangojgjceaaGreat.CA
namespace Go.Proofs.YtjngangojgjceaaGreat.CA
open Go.ChangeShapes Go.WideShapes Go.ChangeAt Go.RowKit Go.Maps Go.ChangeMaps Go.Deep
open Go.Proofs.YtjngangojgjceaaGreat.SL Go.Proofs.YtjngangojgjceaaGreat.EX Go.Proofs.YtjngangojgjceaaGreat.RW
set_option maxRecDepth 100000
set_option linter.unusedVariables false
set_option linter.unusedSimpArgs false

theorem weightsAll_in {H : Type} {P : Program} {e : TypeId} : ∀ {l : List (DataW H)} {d : DataW H}, d ∈ l → ∀ n ∈ d.weights P e, n ∈ DataW.weightsAll P e l
  | [], _, h, _, _ => by cases h
  | x :: r, d, h, n, hn => by
    rcases List.mem_cons.1 h with rfl | h
    · simp [DataW.weightsAll, hn]
    · simp [DataW.weightsAll, weightsAll_in h n hn]
def kyB (k : Ky) : Prop := (-9223372036854775808 ≤ k.2.2.1 ∧ k.2.2.1 ≤ 9223372036854775807) ∧ k.1.size ≤ 140737488351232 ∧ k.2.1.size ≤ 140737488351232 ∧ k.2.2.2.size ≤ 140737488351232
def FitsK (W : World) (v : Value) : Prop := ∃ k : Ky, v = kyV k ∧ kyB k
theorem cellsO : Tryz.prog.cellsOf 34 = 7 := by kernel_rfl
section
variable {H : Type} {enc : TypeId × Value → H} {W : World}
theorem str_w {n : Nat} {c : Value} {x : DataW H × List MemPlace} (h : DataW.trod enc Tryz.prog W 0 (fun _ => true) true n 9 [c] = some x) : ∃ s : ByteArray, c = .string s ∧ s.size ∈ x.1.weights Tryz.prog 9 := by
  obtain ⟨s, e, d, _⟩ := DataW.trod_string Tryz.underlying9 h
  injection e with e _
  refine ⟨s, e, ?_⟩
  rw [d, Lib.size_eq]
  simp [DataW.weights]
theorem one_ky {n : Nat} {cs : List Value} {x : DataW H × List MemPlace} (ht : DataW.trod enc Tryz.prog W 0 (fun _ => true) true n 32 cs = some x) (hw : ∀ m ∈ x.1.weights Tryz.prog 32, m ≤ reachBytes) :
    ∃ k : Ky, cs = (kC k).toList ∧ kyB k := by
  obtain ⟨xs, m, _, hx, hl, hxl, hf⟩ := DataW.trod_struct Tryz.underlying32 ht
  rw [cellsK] at hl
  match cs, hl with
  | [c0, c1, c2, c3], _ =>
  match xs, hxl with
  | [y0, y1, y2, y3], _ =>
    have h0 : DataW.trod enc Tryz.prog W 0 (fun _ => true) true m 9 (List.take (Tryz.prog.cellsOf 9) (List.drop 0 [c0, c1, c2, c3])) = some y0 := hf 0 _ rfl
    have h1 : DataW.trod enc Tryz.prog W 0 (fun _ => true) true m 9 (List.take (Tryz.prog.cellsOf 9) (List.drop 1 [c0, c1, c2, c3])) = some y1 := hf 1 _ rfl
    have h2 : DataW.trod enc Tryz.prog W 0 (fun _ => true) true m 3 (List.take (Tryz.prog.cellsOf 3) (List.drop 2 [c0, c1, c2, c3])) = some y2 := hf 2 _ rfl
    have h3 : DataW.trod enc Tryz.prog W 0 (fun _ => true) true m 9 (List.take (Tryz.prog.cellsOf 9) (List.drop 3 [c0, c1, c2, c3])) = some y3 := hf 3 _ rfl
    have hW : ∀ (j : Nat) (t : TypeId) (D : DataW H), [9, 9, 3, 9][j]? = some t → [y0.1, y1.1, y2.1, y3.1][j]? = some D → ∀ q ∈ D.weights Tryz.prog t, q ≤ reachBytes := by
      intro j t D e1 e2 q hq
      refine hw q ?_
      rw [hx]
      simp only [DataW.weights, Tryz.underlying32]
      exact DataW.weights_mem_each e1 e2 q hq
    rw [cellsS] at h0 h1 h3
    rw [cellsI] at h2
    obtain ⟨x0, rfl, e0⟩ := str_w h0
    obtain ⟨x1, rfl, e1⟩ := str_w h1
    obtain ⟨x2, e2, _, w2⟩ := DataW.trod_int Tryz.underlying3 h2
    obtain ⟨x3, rfl, e3⟩ := str_w h3
    injection e2 with e2 _
    subst e2
    have r : reachBytes = 140737488351232 := rfl
    refine ⟨(x0, x1, x2, x3), rfl, SL.wf64 _ w2, ?_, ?_, ?_⟩
    · exact hW 0 _ _ rfl rfl _ e0
    · exact hW 1 _ _ rfl rfl _ e1
    · exact hW 3 _ _ rfl rfl _ e3
theorem openedK {base : Nat} {v : Value} {d : DataW H} {p : List MemPlace} (hv : Value.okWide Tryz.prog W .any base 32 v)
    (h : DataW.Trod enc Tryz.prog W 0 (fun _ => true) true 32 v d p) (hz : (DataW.weights Tryz.prog 32 d).all (· ≤ reachBytes) = true) : FitsK W v := by
  obtain ⟨cs, rfl, hsz, _⟩ : ∃ cs, v = .agg cs ∧ cs.size = Tryz.prog.cellsOf 32 ∧ Row.okWide Tryz.prog W .any base 32 cs := by
    simpa [Value.okWide, Tryz.underlying32] using hv
  obtain ⟨fuel, hf⟩ := h
  obtain ⟨k, hk, hb⟩ := one_ky hf fun m hm => of_decide_eq_true (List.all_eq_true.1 hz m hm)
  refine ⟨k, ?_, hb⟩
  have : cs.toList = (kC k).toList := by simpa [Value.cells] using hk
  show Value.agg cs = Value.agg (kC k)
  rw [Array.toList_inj.1 this]
/-- an operation: its kind, its key, its value, its time -/
abbrev Opc : Type := Int × Ky × ByteArray × Int
def opcC (o : Opc) : List Value := .int .i64 o.1 :: ((kC o.2.1).toList ++ [.string o.2.2.1, .int .i64 o.2.2.2])
def opcB (o : Opc) : Prop := (-9223372036854775808 ≤ o.1 ∧ o.1 ≤ 9223372036854775807) ∧ kyB o.2.1 ∧ o.2.2.1.size ≤ 140737488351232 ∧ (-9223372036854775808 ≤ o.2.2.2 ∧ o.2.2.2 ≤ 9223372036854775807)
theorem one_opc {n : Nat} {cs : List Value} {x : DataW H × List MemPlace} (ht : DataW.trod enc Tryz.prog W 0 (fun _ => true) true n 34 cs = some x) (hw : ∀ m ∈ x.1.weights Tryz.prog 34, m ≤ reachBytes) :
    ∃ o : Opc, cs = opcC o ∧ opcB o := by
  obtain ⟨xs, m, _, hx, hl, hxl, hf⟩ := DataW.trod_struct Tryz.underlying34 ht
  rw [cellsO] at hl
  match cs, hl with
  | [c0, c1, c2, c3, c4, c5, c6], _ =>
  match xs, hxl with
  | [y0, y1, y2, y3], _ =>
    have h0 : DataW.trod enc Tryz.prog W 0 (fun _ => true) true m 3 (List.take (Tryz.prog.cellsOf 3) (List.drop 0 [c0, c1, c2, c3, c4, c5, c6])) = some y0 := hf 0 _ rfl
    have h1 : DataW.trod enc Tryz.prog W 0 (fun _ => true) true m 32 (List.take (Tryz.prog.cellsOf 32) (List.drop 1 [c0, c1, c2, c3, c4, c5, c6])) = some y1 := hf 1 _ rfl
    have h2 : DataW.trod enc Tryz.prog W 0 (fun _ => true) true m 9 (List.take (Tryz.prog.cellsOf 9) (List.drop 5 [c0, c1, c2, c3, c4, c5, c6])) = some y2 := hf 2 _ rfl
    have h3 : DataW.trod enc Tryz.prog W 0 (fun _ => true) true m 3 (List.take (Tryz.prog.cellsOf 3) (List.drop 6 [c0, c1, c2, c3, c4, c5, c6])) = some y3 := hf 3 _ rfl
    have hW : ∀ (j : Nat) (t : TypeId) (D : DataW H), [3, 32, 9, 3][j]? = some t → [y0.1, y1.1, y2.1, y3.1][j]? = some D → ∀ q ∈ D.weights Tryz.prog t, q ≤ reachBytes := by
      intro j t D e1 e2 q hq
      refine hw q ?_
      rw [hx]
      simp only [DataW.weights, Tryz.underlying34]
      exact DataW.weights_mem_each e1 e2 q hq
    rw [cellsS] at h2
    rw [cellsI] at h0 h3
    rw [cellsK] at h1
    obtain ⟨x0, e0, _, w0⟩ := DataW.trod_int Tryz.underlying3 h0
    obtain ⟨x1, e1, b1⟩ := one_ky h1 (hW 1 _ _ rfl rfl)
    obtain ⟨x2, rfl, e2⟩ := str_w h2
    obtain ⟨x3, e3, _, w3⟩ := DataW.trod_int Tryz.underlying3 h3
    injection e0 with e0 _
    injection e3 with e3 _
    subst e0 e3
    have e1 : [c1, c2, c3, c4] = (kC x1).toList := e1
    refine ⟨(x0, x1, x2, x3), ?_, SL.wf64 _ w0, b1, hW 2 _ _ rfl rfl _ e2, SL.wf64 _ w3⟩
    show [_, c1, c2, c3, c4, _, _] = _ :: ((kC x1).toList ++ _)
    rw [← e1]; rfl
/-- v is a slice of operations that reads as l -/
def OpP (w : World) (v : Value) (l : List Opc) : Prop :=
  (∃ a cap, l = [] ∧ v = .slice a 0 cap) ∨ ∃ g off cap, v = .slice (some ⟨g, off, none⟩) l.length cap ∧ l.length ≤ cap ∧ ∀ (i : Nat) (o : Opc), l[i]? = some o → opcB o ∧ ∀ j u, (opcC o)[j]? = some u → w.cell? ⟨g, off + i * 7 + j, none⟩ = some u
def FitsP (W : World) (v : Value) : Prop := ∃ l, OpP W v l
theorem openedP {base : Nat} {v : Value} {d : DataW H} {p : List MemPlace} (hv : Value.okWide Tryz.prog W .any base 23 v)
    (h : DataW.Trod enc Tryz.prog W 0 (fun _ => true) true 23 v d p) (hz : (DataW.weights Tryz.prog 23 d).all (· ≤ reachBytes) = true) : FitsP W v := by
  obtain ⟨a, ln, cp, rfl⟩ := okWide_slice Tryz.underlying23 hv
  obtain ⟨fuel, hf⟩ := h
  have key : Value.slice a ln cp = .slice none 0 0 ∨ ∃ (l : List Opc) (ad : Addr) (cap : Nat), Value.slice a ln cp = .slice (some ad) l.length cap ∧ l.length ≤ cap ∧ ∀ (i : Nat) (o : Opc), l[i]? = some o → ∃ cs, (cs = opcC o ∧ opcB o) ∧ cs.length = 7 ∧ ∀ j, j < 7 → W.cell? ((ad.add (i * 7)).add j) = cs[j]? := by
    rcases open_slice Tryz.underlying23 hf with ⟨e, _⟩ | ⟨ad, len, cap, k, n, D, Pl, hcs, hb, hl, hm, hmm, hx, hi⟩
    · injection e with e _
      exact .inl e
    · injection hcs with hcs _
      rw [cellsO] at hi
      have hlm : len ≤ k := by rw [hmm]; simp; exact hl
      have key : ∀ j, j ≤ len → ∃ l : List Opc, l.length = j ∧ ∀ (i : Nat) (a : Opc), l[i]? = some a → ∃ cs, (cs = opcC a ∧ opcB a) ∧ cs.length = 7 ∧ ∀ j, j < 7 → W.cell? ((ad.add (i * 7)).add j) = cs[j]? := by
        intro j
        induction j with
        | zero => intro _; exact ⟨[], rfl, fun i x hi => by simp at hi⟩
        | succ j ih =>
          intro hj
          obtain ⟨l, h1, h2⟩ := ih (by omega)
          obtain ⟨cs', hc, ht⟩ := hi j (by omega)
          obtain ⟨_, hcl, hat⟩ := World.cells?_some hc
          obtain ⟨a, hq⟩ := one_opc ht (fun q hq => of_decide_eq_true (List.all_eq_true.1 hz q (by
            have : d = _ := congrArg Prod.fst hx
            rw [this]
            simp only [DataW.weights, Tryz.underlying23]
            exact List.mem_cons_of_mem _ (List.mem_append_left _ (weightsAll_in (List.mem_map.2 ⟨j, List.mem_range.2 (by omega), rfl⟩) _ hq)))))
          refine ⟨l ++ [a], by simp [h1], fun i x hx' => ?_⟩
          by_cases hij : i < l.length
          · rw [List.getElem?_append_left hij] at hx'
            exact h2 i x hx'
          · have hlt := (List.getElem?_eq_some_iff.1 hx').1
            have hie : i = j := by simp at hlt; omega
            subst hie
            rw [List.getElem?_append_right (by omega), h1, Nat.sub_self] at hx'
            simp at hx'
            subst hx'
            exact ⟨cs', hq, hcl, fun q hq2 => hat q hq2⟩
      obtain ⟨l, h1, h2⟩ := key len (Nat.le_refl _)
      exact .inr ⟨l, ad, cap, by rw [hcs, h1], by omega, h2⟩
  rcases key with e | ⟨l, ad, cap, e, hc, h2⟩
  · rw [e]; exact ⟨[], .inl ⟨_, _, rfl, rfl⟩⟩
  · rw [e]
    refine ⟨l, ?_⟩
    by_cases h0 : l = []
    · subst h0; exact .inl ⟨_, _, rfl, rfl⟩
    · obtain ⟨x, hx0⟩ : ∃ x, l[0]? = some x := ⟨l[0]'(by cases l; exact absurd rfl h0; simp), List.getElem?_eq_getElem _⟩
      obtain ⟨cs, ⟨rfl, _⟩, _, hat⟩ := h2 0 x hx0
      have c0 := hat 0 (by omega)
      have e0 : (ad.add (0 * 7)).add 0 = ad := by simp [Addr.add]
      rw [e0] at c0
      have hsp := SL.spot_none (x := .int .i64 x.1) c0
      obtain ⟨bl, of, sp⟩ := ad
      simp only at hsp
      subst hsp
      refine .inr ⟨bl, of, cap, rfl, hc, fun i y hy => ?_⟩
      obtain ⟨cs, ⟨rfl, hb⟩, hl7, hat⟩ := h2 i y hy
      refine ⟨hb, fun j u hu => ?_⟩
      have hj : j < 7 := by have := (List.getElem?_eq_some_iff.1 hu).1; omega
      have := hat j hj
      rw [hu] at this
      simpa only [Addr.add_lit] using this
def Fits4i (W : World) (v : Value) : Prop := ∃ a b c d : Int, v = .agg #[.int .i64 a, .int .i64 b, .int .i64 c, .int .i64 d] ∧ (-9223372036854775808 ≤ a ∧ a ≤ 9223372036854775807) ∧ (-9223372036854775808 ≤ b ∧ b ≤ 9223372036854775807) ∧ (-9223372036854775808 ≤ c ∧ c ≤ 9223372036854775807) ∧ (-9223372036854775808 ≤ d ∧ d ≤ 9223372036854775807)
theorem opened4i {base : Nat} {v : Value} {d : DataW H} {p : List MemPlace} (hv : Value.okWide Tryz.prog W .any base 22 v)
    (h : DataW.Trod enc Tryz.prog W 0 (fun _ => true) true 22 v d p) (hz : (DataW.weights Tryz.prog 22 d).all (· ≤ reachBytes) = true) : Fits4i W v := by
  obtain ⟨⟨cs⟩, rfl, hs, hx⟩ := SL.arr_n Tryz.underlying22 Tryz.underlying3 SL.one_intc (by kernel_rfl) hv h
  obtain ⟨a, ha, wa⟩ := hx 0 (by omega)
  obtain ⟨b, hb, wb⟩ := hx 1 (by omega)
  obtain ⟨c, hc, wc⟩ := hx 2 (by omega)
  obtain ⟨d, hd, wd⟩ := hx 3 (by omega)
  match cs, hs with
  | [c0, c1, c2, c3], _ =>
    simp at ha hb hc hd
    subst ha hb hc hd
    exact ⟨a, b, c, d, rfl, SL.wf64 _ wa, SL.wf64 _ wb, SL.wf64 _ wc, SL.wf64 _ wd⟩
theorem OpP.below {w w' : World} {v : Value} {l : List Opc} (h : OpP w v l) (hb : Below w.heap.size w w') : OpP w' v l := by
  rcases h with h | ⟨g, off, cap, e, hc, hx⟩
  · exact .inl h
  · refine .inr ⟨g, off, cap, e, hc, fun i o hi => ⟨(hx i o hi).1, fun j u hu => ?_⟩⟩
    have h1 := (hx i o hi).2 j u hu
    exact (hb.cell (World.block_lt_of_cell? w _ h1)).trans h1
theorem OpP.form {w : World} {v : Value} {l : List Opc} (h : OpP w v l) : ∃ a cap, v = .slice a l.length cap := by
  rcases h with ⟨a, cap, rfl, rfl⟩ | ⟨g, off, cap, rfl, _⟩
  · exact ⟨_, _, rfl⟩
  · exact ⟨_, _, rfl⟩
theorem OpP.inv {w : World} {v : Value} {l : List Opc} (h : OpP w v l) (hp : 0 < l.length) : ∃ g off cap, v = .slice (some ⟨g, off, none⟩) l.length cap ∧ l.length ≤ cap ∧ ∀ (i : Nat) (o : Opc), l[i]? = some o → opcB o ∧ ∀ j u, (opcC o)[j]? = some u → w.cell? ⟨g, off + i * 7 + j, none⟩ = some u := by
  rcases h with ⟨a, cap, rfl, rfl⟩ | h
  · simp at hp
  · exact h
end
/-! ### short -/
def shK (k : Ky) : Bool := decide (k.1.size + k.2.1.size + k.2.2.2.size ≤ 500)
theorem kyB.sh {k : Ky} (h : kyB k) (hs : shK k = true) : kSh k := ⟨by have := of_decide_eq_true hs; omega, h.1⟩
set_option maxHeartbeats 2000000 in
theorem short_any (k : Ky) (hk : kyB k) (w : World) :
    Calls Tryz.prog 7 #[kyV k] w fun e w' => e = .returned (.bool (shK k)) ∧ Below w.heap.size w w' := by
  obtain ⟨db, ro, fm, no⟩ := k
  obtain ⟨_, h1, h2, h3⟩ := hk
  simp only at h1 h2 h3
  obtain ⟨R, hR⟩ : ∃ R, shK (db, ro, fm, no) = R := ⟨_, rfl⟩
  have HR : R = decide (db.size + ro.size + no.size ≤ 500) := by rw [← hR]; rfl
  rw [hR]
  obtain ⟨a, ha⟩ : ∃ a, db.size = a := ⟨_, rfl⟩
  obtain ⟨b, hb⟩ : ∃ a, ro.size = a := ⟨_, rfl⟩
  obtain ⟨c, hc⟩ : ∃ a, no.size = a := ⟨_, rfl⟩
  have ea := Lib.hid ha
  rw [ha, hb, hc] at HR
  have w1 : IntKind.i64.wrap ((db.size : Int) + (ro.size : Int)) = (db.size : Int) + (ro.size : Int) := IntWalk.i64_in _ (by omega)
  have w2 : IntKind.i64.wrap ((db.size : Int) + (ro.size : Int) + (no.size : Int)) = (db.size : Int) + (ro.size : Int) + (no.size : Int) := IntWalk.i64_in _ (by omega)
  have hd : decide ((db.size : Int) + (ro.size : Int) + (no.size : Int) ≤ 500) = R := by
    rw [HR, Bool.eq_iff_iff, decide_eq_true_iff, decide_eq_true_iff]; omega
  clear h1 h2 h3 hR HR ha hb hc ea
  go_enter Tryz.func7, Tryz.ntmps7
  go_wp2
  go_ret
  refine ⟨?_, (Below.refl _ _).alloc (Nat.le_refl _) _⟩
  rw [← hd]; rfl
end Go.Proofs.YtjngangojgjceaaGreat.CA
namespace Go.Proofs.YtjngangojgjceaaGreat.CA
open Go.ChangeShapes Go.WideShapes Go.ChangeAt Go.RowKit Go.Maps Go.ChangeMaps
open Go.Proofs.YtjngangojgjceaaGreat.SL Go.Proofs.YtjngangojgjceaaGreat.EX Go.Proofs.YtjngangojgjceaaGreat.RW
set_option maxRecDepth 100000
set_option linter.unusedVariables false
set_option linter.unusedSimpArgs false

def eqK (a b : Ky) : Bool := (a.1.toList == b.1.toList) && (a.2.1.toList == b.2.1.toList) && (a.2.2.1 == b.2.2.1) && (a.2.2.2.toList == b.2.2.2.toList)
theorem eqK_iff {a b : Ky} : eqK a b = true ↔ a = b := by
  unfold eqK
  rw [tl_dec, tl_dec, tl_dec]
  simp only [Bool.and_eq_true, decide_eq_true_iff, beq_iff_eq]
  obtain ⟨a1, a2, a3, a4⟩ := a
  obtain ⟨b1, b2, b3, b4⟩ := b
  simp only [Prod.mk.injEq]
  exact ⟨fun h => ⟨h.1.1.1, h.1.1.2, h.1.2, h.2⟩, fun h => ⟨⟨⟨h.1, h.2.1⟩, h.2.2.1⟩, h.2.2.2⟩⟩
theorem eql_ky (a b : Ky) (w : World) : (binOp .eql 32 (kyV a) (kyV b)).run Tryz.prog w = .ok (.bool (eqK a b)) w := by
  obtain ⟨a1, a2, a3, a4⟩ := a
  obtain ⟨b1, b2, b3, b4⟩ := b
  unfold eqK
  cases h1 : (a1.toList == b1.toList) <;> cases h2 : (a2.toList == b2.toList) <;> cases h3 : (a3 == b3) <;> cases h4 : (a4.toList == b4.toList) <;> go_simp
end Go.Proofs.YtjngangojgjceaaGreat.CA
