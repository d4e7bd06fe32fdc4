/- What package front's Decode answers, for every message. Condition: the body is of at most 2^40 bytes. -/
import Derived.Test.YtojgeilihoilnaaM5
import Derived.Test.YtojgeilihoilnaaM6
set_option linter.unusedSimpArgs false
set_option linter.unusedVariables false
namespace Go.Proofs.Ytojgeilihoilnaa
open Go.ChangeShapes Go.WideShapes Go.ChangeAt Go.RowKit
set_option linter.unusedVariables false

theorem kd_find (k : UInt8) (h : kd k = none) : Instr.findNow (.int .u8) (u8 k) kEs.toList 0 = some none := by
  unfold kd at h
  have ne : ∀ b : UInt8, k ≠ b → ((k.toNat : Int) == (b.toNat : Int)) = false := by
    intro b hb
    have : k.toNat ≠ b.toNat := fun e => hb (UInt8.toNat_inj.1 e)
    simp; omega
  split at h
  · cases h
  · rename_i h0
    split at h
    · cases h
    · rename_i h1
      split at h
      · cases h
      · rename_i h2
        split at h
        · cases h
        · rename_i h3
          split at h
          · cases h
          · rename_i h4
            split at h
            · cases h
            · rename_i h5
              split at h
              · cases h
              · rename_i h6
                have e0 := ne 0 h0
                have e1 := ne 112 (fun e => h1 (.inl e))
                have e2 := ne 81 (fun e => h1 (.inr e))
                have e3 := ne 88 (fun e => h2 (.inl e))
                have e4 := ne 83 (fun e => h2 (.inr (.inl e)))
                have e5 := ne 72 (fun e => h2 (.inr (.inr e)))
                have e6 := ne 80 h3
                have e7 := ne 66 h4
                have e8 := ne 68 (fun e => h5 (.inl e))
                have e9 := ne 67 (fun e => h5 (.inr e))
                have e10 := ne 69 h6
                simp only [kEs, u8, Instr.findNow, Instr.sameNow, if_true]
                simp only [show ((0 : UInt8).toNat : Int) = 0 from rfl, show ((112 : UInt8).toNat : Int) = 112 from rfl, show ((81 : UInt8).toNat : Int) = 81 from rfl, show ((88 : UInt8).toNat : Int) = 88 from rfl, show ((83 : UInt8).toNat : Int) = 83 from rfl, show ((72 : UInt8).toNat : Int) = 72 from rfl,
                  show ((80 : UInt8).toNat : Int) = 80 from rfl, show ((66 : UInt8).toNat : Int) = 66 from rfl, show ((68 : UInt8).toNat : Int) = 68 from rfl, show ((67 : UInt8).toNat : Int) = 67 from rfl, show ((69 : UInt8).toNat : Int) = 69 from rfl] at e0 e1 e2 e3 e4 e5 e6 e7 e8 e9 e10
                simp only [e0, e1, e2, e3, e4, e5, e6, e7, e8, e9, e10]
theorem kd_inv (k : UInt8) : (kd k = none) ∨ (k = 0 ∧ kd k = some .start) ∨ ((k = 112 ∨ k = 81) ∧ kd k = some .sql) ∨ ((k = 88 ∨ k = 83 ∨ k = 72) ∧ kd k = some .nothing) ∨ (k = 80 ∧ kd k = some .parse) ∨ (k = 66 ∧ kd k = some .bind) ∨ ((k = 68 ∨ k = 67) ∧ kd k = some .named) ∨ (k = 69 ∧ kd k = some .exec) := by
  unfold kd
  by_cases h0 : k = 0
  · simp [h0]
  · rw [if_neg h0]
    by_cases h1 : k = 112 ∨ k = 81
    · rw [if_pos h1]; simp [h1]
    · rw [if_neg h1]
      by_cases h2 : k = 88 ∨ k = 83 ∨ k = 72
      · rw [if_pos h2]; simp [h2]
      · rw [if_neg h2]
        by_cases h3 : k = 80
        · rw [if_pos h3]; simp [h3]
        · rw [if_neg h3]
          by_cases h4 : k = 66
          · rw [if_pos h4]; simp [h4]
          · rw [if_neg h4]
            by_cases h5 : k = 68 ∨ k = 67
            · rw [if_pos h5]; simp [h5]
            · rw [if_neg h5]
              by_cases h6 : k = 69
              · rw [if_pos h6]; simp [h6]
              · rw [if_neg h6]; simp
theorem decP_no (k : UInt8) (l : Tx) (d : Kd) (hd : kd k = some d) (hr : rightL (k, l) = false) : decP k l = ({}, 4) := by unfold decP; rw [hd]; simp only; rw [if_pos hr]
theorem decP_yes (k : UInt8) (l : Tx) (d : Kd) (hd : kd k = some d) (hr : rightL (k, l) = true) : decP k l = decR (readD d { kind := k } l false) := by
  unfold decP decR; rw [hd]; simp only; rw [if_neg (by rw [hr]; decide)]

theorem dec_some (k : UInt8) (s : ByteArray) (w : World) (hs : s.size ≤ 1099511627776) (d : Kd) (hd : kd k = some d) (i rd wr : Nat) (hk : Instr.findNow (.int .u8) (u8 k) kEs.toList 0 = some (some (i, .agg #[fnV rd, fnV wr])))
    (hread : rightL (k, s.data.toList) = true → Calls Try.prog 9 #[.agg #[u8 k, .string s]] w (DecP (decR (readD d { kind := k } s.data.toList false)) w)) :
    Calls Try.prog 9 #[.agg #[u8 k, .string s]] w (DecP (decP k s.data.toList) w) := by
  cases hr : rightL (k, s.data.toList)
  · rw [decP_no k _ d hd hr]; exact dec_form k s w i rd wr hk hr (by omega)
  · rw [decP_yes k _ d hd hr]; exact hread hr
theorem dec_any (k : UInt8) (s : ByteArray) (w : World) (hs : s.size ≤ 1099511627776) :
    Calls Try.prog 9 #[.agg #[u8 k, .string s]] w (DecP (decP k s.data.toList) w) := by
  rcases kd_inv k with h | ⟨rfl, h⟩ | ⟨rfl | rfl, h⟩ | ⟨rfl | rfl | rfl, h⟩ | ⟨rfl, h⟩ | ⟨rfl, h⟩ | ⟨rfl | rfl, h⟩ | ⟨rfl, h⟩
  · have e : decP k s.data.toList = ({}, 5) := by unfold decP; rw [h]
    rw [e]; exact dec_kind k s w (kd_find k h)
  · exact dec_some _ s w hs _ h _ _ _ rfl (fun hr => dec_read_first _ s w _ _ rfl hr hs _ (fun R A w0 w kv vv av nv fv h => rfirst_any R A s w0 _ _ _ kv vv av nv fv w h hs))
  · exact dec_some _ s w hs _ h _ _ _ rfl (fun hr => dec_read_sql _ s w _ _ rfl hr hs _ (fun R A w0 w kv vv av nv fv h => rsql_any R A s w0 _ _ _ kv vv av nv fv w h hs))
  · exact dec_some _ s w hs _ h _ _ _ rfl (fun hr => dec_read_sql _ s w _ _ rfl hr hs _ (fun R A w0 w kv vv av nv fv h => rsql_any R A s w0 _ _ _ kv vv av nv fv w h hs))
  · exact dec_some _ s w hs _ h _ _ _ rfl (fun hr => dec_read_nothing _ s w _ _ rfl hr hs _ (fun R A w0 w kv vv av nv fv h => rnothing_any R A s w0 _ _ _ kv vv av nv fv w h))
  · exact dec_some _ s w hs _ h _ _ _ rfl (fun hr => dec_read_nothing _ s w _ _ rfl hr hs _ (fun R A w0 w kv vv av nv fv h => rnothing_any R A s w0 _ _ _ kv vv av nv fv w h))
  · exact dec_some _ s w hs _ h _ _ _ rfl (fun hr => dec_read_nothing _ s w _ _ rfl hr hs _ (fun R A w0 w kv vv av nv fv h => rnothing_any R A s w0 _ _ _ kv vv av nv fv w h))
  · exact dec_some _ s w hs _ h _ _ _ rfl (fun hr => dec_read_parse _ s w _ _ rfl hr hs _ (fun R A w0 w kv vv av nv fv h => rparse_any R A s w0 _ _ _ kv vv av nv fv w h hs))
  · exact dec_some _ s w hs _ h _ _ _ rfl (fun hr => dec_read_bind _ s w _ _ rfl hr hs _ (fun R A w0 w kv vv av nv fv h => rbind_any R A s w0 _ _ _ kv vv av nv fv w h hs))
  · exact dec_some _ s w hs _ h _ _ _ rfl (fun hr => dec_read_named _ s w _ _ rfl hr hs _ (fun R A w0 w kv vv av nv fv h => rnamed_any R A s w0 _ _ _ kv vv av nv fv w h hs))
  · exact dec_some _ s w hs _ h _ _ _ rfl (fun hr => dec_read_named _ s w _ _ rfl hr hs _ (fun R A w0 w kv vv av nv fv h => rnamed_any R A s w0 _ _ _ kv vv av nv fv w h hs))
  · exact dec_some _ s w hs _ h _ _ _ rfl (fun hr => dec_read_execute _ s w _ _ rfl hr hs _ (fun R A w0 w kv vv av nv fv h => rexec_any R A s w0 _ _ _ kv vv av nv fv w h hs))
end Go.Proofs.Ytojgeilihoilnaa
