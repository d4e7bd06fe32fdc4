/- What package back's Bytes answers. Condition: at most 1000 tells, each of at most so many and so long texts (Few). -/
import Derived.Test.YtnjifbgjglniaaaBku
namespace Go.Proofs.Ytnjifbgjglniaaa.BK
open Go.Proofs.Ytnjifbgjglniaaa
open Go.ChangeShapes Go.WideShapes Go.ChangeAt Go.RowKit
set_option linter.unusedVariables false
set_option linter.unusedSimpArgs false
set_option maxRecDepth 100000
attribute [local go_sem ↓] Go.wp_at_zero Go.wp_at_succ

def msgsOf (l : List Tell) : List Msg := l.map fun t => (t.kind, body t)
theorem allL_app (a b : List Msg) : allL (a ++ b) = allL a ++ allL b := by
  induction a with
  | nil => rfl
  | cons m a ih => simp [allL, ih]
theorem allL_step (l : List Tell) (k : Nat) (h : k < l.length) : allL (msgsOf (l.take (k + 1))) = allL (msgsOf (l.take k)) ++ putL (l[k].kind, body l[k]) := by
  unfold msgsOf
  rw [List.take_succ_eq_append_getElem h, List.map_append, allL_app]; simp [allL]
theorem putL_len (m : Msg) : (putL m).length ≤ 4097 := by
  unfold putL
  by_cases h : rightL m = true
  · rw [if_pos h]
    have : m.2.length ≤ 4092 := by simp [rightL] at h; exact h.2
    simp only [List.length_append, put_len]
    split <;> simp <;> omega
  · rw [if_neg h]; simp
theorem allL_len (l : List Msg) : (allL l).length ≤ l.length * 4097 := by
  induction l with
  | nil => simp [allL]
  | cons m l ih =>
    have := putL_len m
    simp only [allL, List.length_append, List.length_cons]; omega
open Classical in
/-- the bytes of all -/
noncomputable def bytesP (l : List Tell) : Tx × Int := if ∀ t ∈ l, RightP t then (allL (msgsOf l), 0) else ([], 4)
theorem bytesP_yes {l : List Tell} (h : ∀ t ∈ l, RightP t) : bytesP l = (allL (msgsOf l), 0) := by unfold bytesP; rw [if_pos h]
theorem bytesP_no {l : List Tell} {k : Nat} (hk : k < l.length) (h : ¬ RightP l[k]) : bytesP l = ([], 4) := by
  unfold bytesP; rw [if_neg (fun g => h (g _ (List.getElem_mem _)))]

/-- v is a slice that reads as these tells -/
def TL (w : World) (v : Value) (l : List Tell) : Prop :=
  ∃ A cap, v = .slice A l.length cap ∧ l.length ≤ cap ∧ cap ≤ maxLen ∧ (l ≠ [] → ∃ h off, A = some ⟨h, off, none⟩ ∧ h < w.heap.size ∧ ∀ (k : Nat) a, l[k]? = some a → ∃ kv vv nv,
    (∀ (i : Nat) x, (tellV a kv vv nv)[i]? = some x → w.cell? ⟨h, off + k * 8 + i, none⟩ = some x) ∧ AR (fun b => b < w.heap.size) w (.agg (tellV a kv vv nv)) a)
theorem TL.below {w w' : World} {v : Value} {l : List Tell} (h : TL w v l) (hb : Below w.heap.size w w') : TL w' v l := by
  obtain ⟨A, cap, e, h1, h2, h3⟩ := h
  refine ⟨A, cap, e, h1, h2, fun hn => ?_⟩
  obtain ⟨g, off, e2, hg, hk⟩ := h3 hn
  refine ⟨g, off, e2, Nat.lt_of_lt_of_le hg hb.size, fun k a ha => ?_⟩
  obtain ⟨kv, vv, nv, hc, har⟩ := hk k a ha
  exact ⟨kv, vv, nv, fun i x hx => by rw [(bcell hb).1 _ _ hg]; exact hc i x hx, har.step (fun b hb' => hb.block b hb') (fun b hb' => Nat.lt_of_lt_of_le hb' hb.size)⟩
/-- what is being put, since w, into the builder at b -/
structure Wc (w : World) (b : Nat) (l : Tx) (wr : World) : Prop where
  bld : IsB b b l wr
  hb : w.heap.size ≤ b
  lt : b < wr.heap.size
  bel : Below w.heap.size w wr
section
variable {w : World} {b : Nat} {l : Tx} {wr w2 : World}
theorem Wc.step (h : Wc w b l wr) (k : Below wr.heap.size wr w2) : Wc w b l w2 :=
  ⟨isB_below h.bld k, h.hb, Nat.lt_of_lt_of_le h.lt k.size, h.bel.trans (k.mono h.bel.size)⟩
theorem Wc.write (h : Wc w b l wr) (t : Tx) (hl : l.length + t.length ≤ 140737488355328) :
    Calls Try.prog 32 #[.pointer (some ⟨b, 0, none⟩), .string (ba t)] wr fun e w' => e = .returned (.tuple #[.int .i64 (ba t).size, .nilIface]) ∧ Wc w b (l ++ t) w' := by
  refine (wstr_any b b l (ba t) wr h.bld (by rw [ba_size]; omega) (Nat.le_of_lt h.lt)).mono ?_
  rintro e w' ⟨rfl, h1, h2, h3⟩
  rw [ba_list] at h1
  exact ⟨rfl, .inr h1, h.hb, h1.lt, h.bel.trans (h2.mono h.hb)⟩
theorem Wc.str (h : Wc w b l wr) :
    Calls Try.prog 34 #[.pointer (some ⟨b, 0, none⟩)] wr fun e w' => e = .returned (.string (ba l)) ∧ Below w.heap.size w w' := by
  refine (Try.Builder_String_any b b l wr h.bld (Nat.le_of_lt h.lt)).mono ?_
  rintro e w' ⟨rfl, h2⟩
  exact ⟨rfl, h.bel.trans (h2.mono h.hb)⟩
end
theorem Wc.new (w : World) : Wc w w.heap.size [] (w.alloc (.cells #[.pointer none, .slice none 0 0] 65)) :=
  ⟨Lib.fresh_isBuilder _ _ w, Nat.le_refl _, by simp, (Below.refl _ _).alloc (Nat.le_refl _) _⟩

set_option maxHeartbeats 2000000 in
theorem bytes_any (l : List Tell) (v : Value) (w : World) (hl : l.length ≤ 1000) (hf : ∀ t ∈ l, Few t) (h : TL w v l) :
    Calls Try.prog 17 #[v] w fun e w' => e = .returned (.tuple #[.string (ba (bytesP l).1), .int .i64 (bytesP l).2]) ∧ Below w.heap.size w w' := by
  obtain ⟨A, cap, rfl, hc1, hc2, hx⟩ := h
  have HX := Lib.hid hx
  have HF := Lib.hid hf
  have hW := Wc.new w
  have HW := Lib.hid hW
  clear hx hf hW
  go_enter Try.func17, Try.ntmps17
  go_wp2
  go_loopw [11] (fun i wr => ∃ k : Nat, k ≤ l.length ∧ i = .int .i64 k ∧ (∀ t ∈ l.take k, RightP t) ∧ Wc w w.heap.size (allL (msgsOf (l.take k))) wr) (fun i _ => l.length - (intOf i).toNat)
  case atStart => exact ⟨0, Nat.zero_le _, rfl, by simp, by simpa [msgsOf, allL] using HW.out⟩
  case round =>
    obtain ⟨k, hk, rfl, hR, hI⟩ := hrel
    have HR := Lib.hid hR
    clear hR HW
    by_cases hlt : k < l.length
    · obtain ⟨g, off, rfl, hg, hx⟩ := HX.out (by intro e; rw [e] at hlt; simp at hlt)
      obtain ⟨kv, vv, nv, hcs, har⟩ := hx k l[k] (List.getElem?_eq_getElem hlt)
      obtain ⟨o1, o2, o3⟩ := lrs_at har w (Below.refl _ _)
      obtain ⟨A1, p1, rfl, _, _⟩ := o1.form
      obtain ⟨A2, p2, rfl, _, _⟩ := o2.form
      obtain ⟨A3, p3, rfl, _, _⟩ := o3.form
      clear o1 o2 o3
      obtain ⟨n1, hn1⟩ : ∃ n, n = (strs l[k].keys).length := ⟨_, rfl⟩
      obtain ⟨n2, hn2⟩ : ∃ n, n = (strs l[k].vals).length := ⟨_, rfl⟩
      obtain ⟨n3, hn3⟩ : ∃ n, n = (bools l[k].null).length := ⟨_, rfl⟩
      rw [← hn1, ← hn2, ← hn3] at har hcs
      clear hn1 hn2 hn3
      obtain ⟨kv, hkv⟩ : ∃ v, v = Value.slice A1 n1 p1 := ⟨_, rfl⟩
      obtain ⟨vv, hvv⟩ : ∃ v, v = Value.slice A2 n2 p2 := ⟨_, rfl⟩
      obtain ⟨nv, hnv⟩ : ∃ v, v = Value.slice A3 n3 p3 := ⟨_, rfl⟩
      rw [← hkv, ← hvv, ← hnv] at har hcs
      have cc : ∀ (i : Nat) x, (tellV l[k] kv vv nv)[i]? = some x → wr.cell? ⟨g, off + k * 8 + i, none⟩ = some x := fun i x hx => by rw [(bcell hI.bel).1 _ _ hg]; exact hcs i x hx
      have HS := Lib.hid (allL_step l k hlt)
      have d : ∀ W : World, Below w.heap.size w W → Calls Try.prog 13 #[.agg (tellV l[k] kv vv nv)] W (EncP (encP l[k]) W) := fun W hB =>
        enc_any l[k] _ W (HF.out _ (List.getElem_mem _)) (har.step (fun b hb => hB.block b hb) (fun b hb => Nat.lt_of_lt_of_le hb hB.size))
      have hz : (allL (msgsOf (l.take k))).length ≤ 4097000 := by
        have h1 := allL_len (msgsOf (l.take k))
        have h2 : (msgsOf (l.take k)).length ≤ 1000 := by simp only [msgsOf, List.length_map, List.length_take]; omega
        have h3 := Nat.mul_le_mul_right 4097 h2
        omega
      have htwo := encP_two l[k]
      have hno := fun h => bytesP_no hlt (l := l) h
      have hsz := hI.bel.size
      have HIA := Lib.hid (show ∀ cs t, Wc w w.heap.size (allL (msgsOf (l.take k))) (wr.alloc (.cells cs t)) from fun cs t => hI.step ((Below.refl _ _).alloc (Nat.le_refl _) _))
      have c0 : wr.cell? ⟨g, off + k * 8, none⟩ = some (.int .u8 (l[k].kind.toNat : Int)) := cc 0 _ rfl
      have c1 : wr.cell? ⟨g, off + k * 8 + 1, none⟩ = some (.int .u8 (l[k].status.toNat : Int)) := cc 1 _ rfl
      have c2 : wr.cell? ⟨g, off + k * 8 + 2, none⟩ = some (.string (ba l[k].text)) := cc 2 _ rfl
      have c3 : wr.cell? ⟨g, off + k * 8 + 3, none⟩ = some (kv) := cc 3 _ rfl
      have c4 : wr.cell? ⟨g, off + k * 8 + 4, none⟩ = some (vv) := cc 4 _ rfl
      have c5 : wr.cell? ⟨g, off + k * 8 + 5, none⟩ = some (nv) := cc 5 _ rfl
      have c6 : wr.cell? ⟨g, off + k * 8 + 6, none⟩ = some (.int .i64 l[k].n) := cc 6 _ rfl
      have c7 : wr.cell? ⟨g, off + k * 8 + 7, none⟩ = some (.int .i64 l[k].m) := cc 7 _ rfl
      rw [box_cut] at d
      obtain ⟨a, ha⟩ : ∃ a, a = l[k] := ⟨_, rfl⟩
      have hkr : RightP a → ∀ t ∈ l.take (k + 1), RightP t := by
        intro hr t ht
        rw [List.take_succ_eq_append_getElem hlt] at ht
        rcases List.mem_append.1 ht with ht | ht
        · exact HR.out t ht
        · rw [List.mem_singleton.1 ht, ← ha]; exact hr
      rw [← ha] at c0 c1 c2 c6 c7 d htwo hno
      have hS := HS.out
      rw [← ha] at hS
      clear HS ha cc hcs har hx HR HX HF
      have HS := Lib.hid hS
      have HD := Lib.hid d
      have HNO := Lib.hid hno
      have HKR := Lib.hid hkr
      have HTW := Lib.hid htwo
      clear hS d hno hkr htwo
      subst hkv hvv hnv
      go_wp2_with fail
      have hIA := HIA.out #[.int .u8 (a.kind.toNat : Int), .int .u8 (a.status.toNat : Int), .string (ba a.text), .slice A1 n1 p1, .slice A2 n2 p2, .slice A3 n3 p3, .int .i64 a.n, .int .i64 a.m] 28
      refine (HD.out _ hIA.bel).mono ?_
      rcases HTW.out with ⟨hr, he⟩ | ⟨hr, he⟩
      · rw [he]
        rintro e w2 ⟨rfl, hb2⟩
        have hI2 := hIA.step hb2
        have hMg := hI2.step ((Below.refl _ _).alloc (Nat.le_refl _) (.cells #[.int .u8 (a.kind.toNat : Int), .string (ba (body a))] 23))
        have dp := Go.Proofs.Ytnjifbgjglniaaa.put_any a.kind (ba (body a)) (w2.alloc (.cells #[.int .u8 (a.kind.toNat : Int), .string (ba (body a))] 23)) (by rw [ba_size]; have := hr.len; omega)
        rw [ba_list] at dp
        unfold Go.Proofs.Ytnjifbgjglniaaa.u8 at dp ⊢
        have HKK := Lib.hid (HKR.out hr)
        have HPL := Lib.hid (show (allL (msgsOf (l.take k))).length + (putL (a.kind, body a)).length ≤ 140737488355328 by have := putL_len (a.kind, body a); omega)
        clear he hb2 hI hIA hI2 c0 c1 c2 c3 c4 c5 c6 c7 HIA HTW
        go_wp2_with fail
        refine dp.mono ?_; rintro e w3 ⟨rfl, hb3⟩
        have hI3 := hMg.step hb3
        clear hb3 hMg
        go_wp2_with fail
        refine (hI3.write _ HPL.out).mono ?_; rintro e w4 ⟨rfl, hI4⟩
        clear hI3
        go_wp2
        go_roundw
        case rel => exact ⟨k + 1, by omega, by go_num, HKK.out, by rw [HS.out]; exact hI4⟩
        case measure => simp [intOf]; omega
      · rw [he]
        rintro e w2 ⟨rfl, hb2⟩
        have hI2 := hIA.step hb2
        have hMg := hI2.step ((Below.refl _ _).alloc (Nat.le_refl _) (.cells #[.int .u8 0, .string ⟨#[]⟩] 23))
        have e0 := HNO.out hr
        unfold Go.Proofs.Ytnjifbgjglniaaa.u8
        rw [show ba [] = ⟨#[]⟩ from rfl]
        clear he hb2 hI hIA hI2 c0 c1 c2 c3 c4 c5 c6 c7 HIA HTW
        have HE := Lib.hid e0
        clear e0
        go_wp2
        go_ret2
        rw [HE.out]
        exact ⟨rfl, hMg.bel⟩
    · have e : k = l.length := by omega
      subst e
      rw [List.take_length] at *
      go_wp2_with fail
      refine hI.str.mono ?_; rintro e w2 ⟨rfl, hb2⟩
      go_wp2
      go_ret2
      have hR := HR.out
      rw [bytesP_yes hR]
      exact ⟨rfl, hb2⟩
end Go.Proofs.Ytnjifbgjglniaaa.BK
