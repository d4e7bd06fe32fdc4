/- NormFills (layer 5): for every list of tokens, of texts and of truths the law returns true and its arguments read as before: any tokens with any values of their parameters, and the greatest number of one, is as the document says, or what is wrong; the tokens stay. A tied card; no condition but the form's own reach. -/
import Derived.Test.YtgnpkpboilnijaaGreatDoorG26
import Derived.SizedLaws
import Derived.ChangeOld
import Derived.Carry
namespace Go.Proofs.YtgnpkpboilnijaaGreatDoor.normFills
open Go.ChangeShapes Go.WideShapes Go.ChangeAt Go.RowKit
open Go.ChangeMaps (open_string shut_string)
set_option linter.unusedVariables false

theorem fill_len (l : List Tok) (args : List ByteArray) (null : List Bool) : (fillA l args null).1.length ≤ l.length := by
  unfold fillA
  split
  · exact Nat.zero_le _
  · cases h : fillL l args null with
    | none => exact Nat.zero_le _
    | some r => exact Nat.le_of_eq (fill_facts l args null r h).1
set_option maxHeartbeats 4000000 in
set_option maxRecDepth 100000 in
theorem walk (v va vn : Value) (W : World) (hf : FitsT W v) (hfa : FitsS W va) (hfn : FitsB W vn) (hw : ∃ m, Wd m W) :
    Calls Tryz.prog 4 #[v, va, vn] W fun e w' => e = .returned (.bool true) ∧ Below W.heap.size W w' := by
  obtain ⟨l, hT⟩ := hf
  obtain ⟨args, hA, hza⟩ := hfa
  obtain ⟨null, hN⟩ := hfn
  obtain ⟨m, hm⟩ := hw
  have hkn := fun w1 h1 => known5_any m w1 h1
  have hli := light_any v l W hT
  obtain ⟨a1, cap1, e1⟩ := hA.form
  rw [List.length_map] at e1
  subst e1
  obtain ⟨a2, cap2, e2⟩ := hN.form
  rw [List.length_map] at e2
  subst e2
  have HM := Lib.hid hm
  have HK := Lib.hid hkn
  clear hm hkn
  cases hl : lightL l with
  | false =>
    rw [hl] at hli
    have HLI := Lib.hid hli
    obtain ⟨a0, cap0, rfl⟩ := hT.form
    clear hli hl hT hA hN hza
    go_enter Tryz.func4, Tryz.ntmps4
    go_wp2_with (first
      | (go_at_call 7; (with_reducible refine HLI.out.mono ?_); rintro e w0 ⟨rfl, hw0⟩; obtain rfl := hw0.symm)
      | (go_at_call 8; (with_reducible refine (HK.out _ HM.out).mono ?_); rintro e w5 ⟨rfl, hb⟩))
    go_ret
    exact ⟨rfl, hb⟩
  | true =>
    rw [hl] at hli
    have HLI := Lib.hid hli
    obtain ⟨z1, z2⟩ := light_yes hl
    clear hli hl
    by_cases hb1 : 60 < args.length
    · have hb1' : (60 : Int) < (args.length : Int) := by omega
      obtain ⟨a0, cap0, rfl⟩ := hT.form
      clear hT hA hN hza z1 z2 hb1
      go_enter Tryz.func4, Tryz.ntmps4
      go_wp2_with (first
        | (go_at_call 7; (with_reducible refine HLI.out.mono ?_); rintro e w0 ⟨rfl, hw0⟩; obtain rfl := hw0.symm)
        | (go_at_call 8; (with_reducible refine (HK.out _ HM.out).mono ?_); rintro e w5 ⟨rfl, hb⟩))
      go_ret
      exact ⟨rfl, hb⟩
    · have hb1' : ¬ ((60 : Int) < (args.length : Int)) := by omega
      by_cases hb2 : 60 < null.length
      · have hb2' : (60 : Int) < (null.length : Int) := by omega
        obtain ⟨a0, cap0, rfl⟩ := hT.form
        clear hT hA hN hza z1 z2 hb1 hb2
        go_enter Tryz.func4, Tryz.ntmps4
        go_wp2_with (first
          | (go_at_call 7; (with_reducible refine HLI.out.mono ?_); rintro e w0 ⟨rfl, hw0⟩; obtain rfl := hw0.symm)
          | (go_at_call 8; (with_reducible refine (HK.out _ HM.out).mono ?_); rintro e w5 ⟨rfl, hb⟩))
        go_ret
        exact ⟨rfl, hb⟩
      · have hb2' : ¬ ((60 : Int) < (null.length : Int)) := by omega
        have hfl := fill_len l args null
        have hfi := fun v1 w1 (h1 : TR w1 v1 l) h2 h3 => fill_any v1 (.slice a1 args.length cap1) (.slice a2 null.length cap2) l args null w1 (by omega) (fun t ht => by have := z2 t ht; omega) h1 h2 h3 (by omega) (by omega) (fun t ht => by have := hza t ht; omega)
        have hrf := fun w1 h1 h2 h3 => rfill_any v (.slice a1 args.length cap1) (.slice a2 null.length cap2) l args null w1 (by omega) (fun t ht => by have := z2 t ht; omega) h1 h2 h3 (by omega) (by omega)
        have hbi := fun w1 h1 => binds_any v l w1 (by omega) (fun t ht _ => by have := z2 t ht; omega) h1
        have hrb := fun w1 h1 => rbinds_any v l w1 (by omega) (fun t ht => by have := z2 t ht; omega) h1
        obtain ⟨⟨r, E⟩, hR⟩ : ∃ R, fillA l args null = R := ⟨_, rfl⟩
        rw [hR] at hfi hrf hfl
        have hrl : r.length ≤ l.length := hfl
        have hfi : ∀ v1 w1, TR w1 v1 l → CR w1 (.slice a1 args.length cap1) (args.map .string) → CR w1 (.slice a2 null.length cap2) (null.map .bool) → Calls Tryz.prog 13 #[v1, .slice a1 args.length cap1, .slice a2 null.length cap2] w1
          fun e w' => ∃ u, e = .returned (.tuple #[u, .int .i64 E]) ∧ w'.ownsRow w1.heap.size 35 3 u r.length (tokRow r) ∧ Below w1.heap.size w1 w' := hfi
        have hrf : ∀ w1, TR w1 v l → CR w1 (.slice a1 args.length cap1) (args.map .string) → CR w1 (.slice a2 null.length cap2) (null.map .bool) → Calls Tryz.prog 14 #[v, .slice a1 args.length cap1, .slice a2 null.length cap2] w1
          fun e w' => ∃ u, e = .returned (.tuple #[u, .int .i64 E]) ∧ w'.ownsRow w1.heap.size 35 3 u r.length (tokRow r) ∧ Below w1.heap.size w1 w' := hrf
        obtain ⟨N, hNN⟩ : ∃ N, bindsL l = N := ⟨_, rfl⟩
        rw [hNN] at hbi hrb
        have HT := Lib.hid hT
        have HA := Lib.hid hA
        have HN := Lib.hid hN
        obtain ⟨i30, hi30, hz30, hs30, hb30⟩ := i30_parts
        rcases toks_lie hT with ⟨c0, rfl, rfl⟩ | ⟨ad, c0, rfl, hc0⟩
        · have HFI := Lib.hid hfi
          have HRF := Lib.hid hrf
          have HBI := Lib.hid hbi
          have HRB := Lib.hid hrb
          clear hfi hrf hbi hrb hR hNN hT hA hN hza z2 hfl hb1 hb2 z1
          have HRL := Lib.hid hrl
          go_enter Tryz.func4, Tryz.ntmps4
          go_wp2_with (go_at_call 7; (with_reducible refine HLI.out.mono ?_); rintro e w0 ⟨rfl, hw0⟩; obtain rfl := hw0.symm)
          have hown9 : TR (W.alloc (.cells #[] 35)) (.slice (some ⟨W.heap.size, 0, none⟩) 0 0) [] := .inl ⟨_, _, rfl, rfl⟩
          have hbe9 : Below W.heap.size W (W.alloc (.cells #[] 35)) := (Below.refl _ W).alloc (Nat.le_refl _) _
          have hrl : r.length ≤ 100 := Nat.le_trans HRL.out (Nat.zero_le _)
          have HT1o := Lib.hid hown9
          have HB1 := Lib.hid hbe9
          have HA1 := Lib.hid (HA.out.below hbe9)
          have HN1 := Lib.hid (HN.out.below hbe9)
          clear hown9 hbe9
          go_wp2_with fail
          refine (HFI.out _ _ HT1o.out HA1.out HN1.out).mono ?_
          rintro e w2 ⟨v3, rfl, hr2, hb2⟩
          obtain ⟨a3, cap3, ga, rfl, hga, hla, hca⟩ := ce_made hr2
          have HC2 := Lib.hid hb2
          have HG1 := Lib.hid hga
          have HLA := Lib.hid hla
          have HCA := Lib.hid hca
          have hB2 := HB1.out.trans (hb2.mono HB1.out.size)
          have HT2 := Lib.hid (HT.out.below hB2)
          have HA2 := Lib.hid (HA.out.below hB2)
          have HN2 := Lib.hid (HN.out.below hB2)
          clear hr2 hga hla hca hB2 hb2
          go_wp2_with fail
          refine (HRF.out _ HT2.out HA2.out HN2.out).mono ?_
          rintro e w3 ⟨v4, rfl, hr3, hb3⟩
          obtain ⟨a4, cap4, gb, rfl, hgb, hlb, hcb⟩ := ce_made hr3
          have HC3 := Lib.hid (HC2.out.trans (hb3.mono HC2.out.size))
          have HG2 := Lib.hid hgb
          have HLB := Lib.hid hlb
          have HCB := Lib.hid hcb
          have HU1 := Lib.hid (UpI.start (HCA.out.below (by
            rcases HLA.out with h0 | h0
            · exact .inl h0
            · exact .inr h0.2.2) hb3))
          clear hr3 hgb hlb hcb hb3
          go_wp2
          go_loopg [12] r.length (fun gh u wx => ∃ k : Nat, u = .int .i64 (k : Int) ∧ k + gh = r.length ∧ UpI r ga k w3 wx)
          case atStart => exact ⟨0, rfl, by omega, HU1.out⟩
          case round =>
            obtain ⟨k, rfl, hkg, hJ⟩ := hrel
            have HJ := Lib.hid hJ
            cases gk with
            | succ gh =>
              have hkl : (k : Int) < (r.length : Int) := by omega
              have hlt : k < r.length := by omega
              have hk0 : (0 : Int) ≤ (k : Int) := by omega
              rcases HLA.out with h0 | ⟨rfl, hcap, _⟩
              · omega
              · obtain ⟨c0, c1, c2⟩ := hJ.ce.cell k hlt
                have f2 := hJ.ce.fro k hlt
                have hst := hJ.step hlt
                rw [if_neg (by omega)] at c2
                have hcapI : (r.length : Int) ≤ (cap3 : Int) := by omega
                clear hJ c0 c1
                generalize r[k].2.2 = ta at *
                obtain ⟨tb, htb⟩ : ∃ tb, upZ ta = tb := ⟨_, rfl⟩
                have cw : IntKind.i64.wrap (ta + 1) = tb := htb
                rw [htb] at hst
                have HST := Lib.hid hst
                clear hst htb
                go_wp2
                go_roundg gh
                case measure => omega
                case rel => exact ⟨k + 1, by go_num, by omega, HST.out⟩
            | zero =>
              have hkl : ¬ ((k : Int) < (r.length : Int)) := by omega
              have hke : k = r.length := by omega
              subst hke
              clear hJ
              have HC4 := Lib.hid (HC3.out.trans (HJ.out.bel.mono HG1.out))
              have HCA4 := Lib.hid HJ.out.ce
              have hcb : CE r gb 0 wr := HCB.out.other (by
                rcases HLA.out with h0 | h0
                · exact .inl h0
                · exact .inr (by have := h0.2.2; have := HG2.out; omega)) HJ.out.oth HJ.out.fot
              have HU2 := Lib.hid (UpI.start hcb)
              clear hcb HJ
              generalize wr = w4 at *
              go_wp2
              go_loopg [13] r.length (fun gh u wx => ∃ k : Nat, u = .int .i64 (k : Int) ∧ k + gh = r.length ∧ UpI r gb k w4 wx)
              case atStart => exact ⟨0, rfl, by omega, HU2.out⟩
              case round =>
                obtain ⟨k, rfl, hkg, hJ⟩ := hrel
                have HJ := Lib.hid hJ
                cases gk with
                | succ gh =>
                  have hkl : (k : Int) < (r.length : Int) := by omega
                  have hlt : k < r.length := by omega
                  have hk0 : (0 : Int) ≤ (k : Int) := by omega
                  rcases HLB.out with h0 | ⟨rfl, hcap, _⟩
                  · omega
                  · obtain ⟨c0, c1, c2⟩ := hJ.ce.cell k hlt
                    have f2 := hJ.ce.fro k hlt
                    have hst := hJ.step hlt
                    rw [if_neg (by omega)] at c2
                    have hcapI : (r.length : Int) ≤ (cap4 : Int) := by omega
                    clear hJ c0 c1
                    generalize r[k].2.2 = ta at *
                    obtain ⟨tb, htb⟩ : ∃ tb, upZ ta = tb := ⟨_, rfl⟩
                    have cw : IntKind.i64.wrap (ta + 1) = tb := htb
                    rw [htb] at hst
                    have HST := Lib.hid hst
                    clear hst htb
                    go_wp2
                    go_roundg gh
                    case measure => omega
                    case rel => exact ⟨k + 1, by go_num, by omega, HST.out⟩
                | zero =>
                  have hkl : ¬ ((k : Int) < (r.length : Int)) := by omega
                  have hke : k = r.length := by omega
                  subst hke
                  clear hJ
                  have hC5 := HC4.out.trans (HJ.out.bel.mono (Nat.le_trans HC2.out.size HG2.out))
                  have hceA : CE r ga r.length wr := HCA4.out.other (by
                    rcases HLA.out with h0 | h0
                    · exact .inl h0
                    · exact .inr (by have := h0.2.2; have := HG2.out; omega)) HJ.out.oth HJ.out.fot
                  have HTA := Lib.hid (ce_read hceA HLA.out)
                  have HTB := Lib.hid (ce_read HJ.out.ce HLB.out)
                  have hB5 := HB1.out.trans (hC5.mono HB1.out.size)
                  have HB5 := Lib.hid hB5
                  have HTW := Lib.hid (HT.out.below hB5)
                  have HTO := Lib.hid (HT1o.out.below hC5)
                  have HM5 := Lib.hid (HM.out.below hB5)
                  clear hB5 hC5 hceA
                  have h1 := fun w9 (h8 : TR w9 (.slice a3 r.length cap3) (r.map upT)) (h9 : TR w9 (.slice a4 r.length cap4) (r.map upT)) => same_yes _ _ (r.map upT) (r.map upT) true w9 h8 h9 (by rw [List.length_map]; omega) (Alike.refl _ _)
                  have HS1 := Lib.hid h1
                  have h2 := fun w9 (h8 : TR w9 (.slice (some ⟨W.heap.size, 0, none⟩) 0 0) []) (h9 : TR w9 (.slice none 0 c0) []) => same_yes _ _ [] [] true w9 h8 h9 (by decide) (Alike.refl _ _)
                  have HS2 := Lib.hid h2
                  clear h1 h2
                  go_wp2_with fail
                  refine (HS1.out _ HTA.out HTB.out).mono ?_
                  rintro e w6 ⟨rfl, n6, rfl⟩
                  have HB6 := Lib.hid (HB5.out.trans ((below_drewN_ (Below.refl _ _) n6).mono HB5.out.size))
                  have HT6 := Lib.hid (HTW.out.drewN n6)
                  have HO6 := Lib.hid (HTO.out.drewN n6)
                  have HM6 := Lib.hid (HM5.out.drewN n6)
                  generalize wr.drewN n6 = w6 at *
                  go_wp2_with fail
                  refine (HS2.out _ HO6.out HT6.out).mono ?_
                  rintro e w7 ⟨rfl, n7, rfl⟩
                  have HB7 := Lib.hid (HB6.out.trans ((below_drewN_ (Below.refl _ _) n7).mono HB6.out.size))
                  have HT7 := Lib.hid (HT6.out.drewN n7)
                  have HM7 := Lib.hid (HM6.out.drewN n7)
                  generalize w6.drewN n7 = w7 at *
                  go_wp2_with fail
                  refine (HBI.out _ HT7.out).mono ?_
                  rintro e w8 ⟨rfl, hb8⟩
                  have HB8 := Lib.hid (HB7.out.trans (hb8.mono HB7.out.size))
                  have HT8 := Lib.hid (HT7.out.below hb8)
                  have HM8 := Lib.hid (HM7.out.below hb8)
                  clear hb8
                  go_wp2_with fail
                  refine (HRB.out _ HT8.out).mono ?_
                  rintro e w9 ⟨rfl, hb9⟩
                  have HB9 := Lib.hid (HB8.out.trans (hb9.mono HB8.out.size))
                  have HM9 := Lib.hid (HM8.out.below hb9)
                  clear hb9
                  go_wp2_with (go_at_call 8; (with_reducible refine (HK.out _ HM9.out).mono ?_); rintro e w10 ⟨rfl, hb10⟩)
                  go_ret
                  exact ⟨rfl, HB9.out.trans (hb10.mono HB9.out.size)⟩
        · have HC0 := Lib.hid hc0
          have HFI := Lib.hid hfi
          have HRF := Lib.hid hrf
          have HBI := Lib.hid hbi
          have HRB := Lib.hid hrb
          clear hfi hrf hbi hrb hR hNN hT hA hN hza z2 hfl hb1 hb2 hc0
          go_enter Tryz.func4, Tryz.ntmps4
          go_wp2_with (first
            | (go_at_call 7; (with_reducible refine HLI.out.mono ?_); rintro e w0 ⟨rfl, hw0⟩; obtain rfl := hw0.symm)
            | (at_builtin; refine wpList_append_own _ rfl _ _ 22 rfl W.heap.size 35 i30 (.agg #[.int .i64 0, .string ByteArray.empty, .int .i64 0]) 3 32 und23 hi30 hz30 hs30 hb30 rfl (by decide) (.slice (some ⟨W.heap.size, 0, none⟩) 0 0) 0 [] rfl (World.ownsRow_made W #[] 0 (Nat.le_refl _) (Nat.zero_le _) (by simp)) ad l.length c0 (tokRow l) rfl ?qc1 ?qc2 ?qc3 ?qc4 ?qc5 ?qc6 ?_
               case qc1 => exact tokRow_len l
               case qc2 =>
                 intro j u hj
                 exact Lib.cell?_alloc_some _ (HC0.out j u hj)
               case qc3 =>
                 intro u hu
                 obtain ⟨t, _, ht⟩ := List.mem_flatMap.1 hu
                 exact tok_one t u ht
               case qc4 => unfold maxLen; omega
               case qc5 => omega
               case qc6 => simp
               intro vo w1 hown hgrow hnil))
          have hown9 : TR w1 vo l := TR.own (by simpa using hown)
          have hbe9 : Below W.heap.size W w1 := ((Below.refl _ W).alloc (Nat.le_refl _) _).grown hgrow (by simp) (by intro k hk; have hk2 : W.heap.size = k := (by simpa [Value.ownBlock] using hk); omega)
          clear hown hgrow hnil
          have HT1o := Lib.hid hown9
          have HB1 := Lib.hid hbe9
          have HA1 := Lib.hid (HA.out.below hbe9)
          have HN1 := Lib.hid (HN.out.below hbe9)
          clear hown9 hbe9
          go_wp2_with fail
          refine (HFI.out _ _ HT1o.out HA1.out HN1.out).mono ?_
          rintro e w2 ⟨v3, rfl, hr2, hb2⟩
          obtain ⟨a3, cap3, ga, rfl, hga, hla, hca⟩ := ce_made hr2
          have HC2 := Lib.hid hb2
          have HG1 := Lib.hid hga
          have HLA := Lib.hid hla
          have HCA := Lib.hid hca
          have hB2 := HB1.out.trans (hb2.mono HB1.out.size)
          have HT2 := Lib.hid (HT.out.below hB2)
          have HA2 := Lib.hid (HA.out.below hB2)
          have HN2 := Lib.hid (HN.out.below hB2)
          clear hr2 hga hla hca hB2 hb2
          go_wp2_with fail
          refine (HRF.out _ HT2.out HA2.out HN2.out).mono ?_
          rintro e w3 ⟨v4, rfl, hr3, hb3⟩
          obtain ⟨a4, cap4, gb, rfl, hgb, hlb, hcb⟩ := ce_made hr3
          have HC3 := Lib.hid (HC2.out.trans (hb3.mono HC2.out.size))
          have HG2 := Lib.hid hgb
          have HLB := Lib.hid hlb
          have HCB := Lib.hid hcb
          have HU1 := Lib.hid (UpI.start (HCA.out.below (by
            rcases HLA.out with h0 | h0
            · exact .inl h0
            · exact .inr h0.2.2) hb3))
          clear hr3 hgb hlb hcb hb3
          go_wp2
          go_loopg [12] r.length (fun gh u wx => ∃ k : Nat, u = .int .i64 (k : Int) ∧ k + gh = r.length ∧ UpI r ga k w3 wx)
          case atStart => exact ⟨0, rfl, by omega, HU1.out⟩
          case round =>
            obtain ⟨k, rfl, hkg, hJ⟩ := hrel
            have HJ := Lib.hid hJ
            cases gk with
            | succ gh =>
              have hkl : (k : Int) < (r.length : Int) := by omega
              have hlt : k < r.length := by omega
              have hk0 : (0 : Int) ≤ (k : Int) := by omega
              rcases HLA.out with h0 | ⟨rfl, hcap, _⟩
              · omega
              · obtain ⟨c0, c1, c2⟩ := hJ.ce.cell k hlt
                have f2 := hJ.ce.fro k hlt
                have hst := hJ.step hlt
                rw [if_neg (by omega)] at c2
                have hcapI : (r.length : Int) ≤ (cap3 : Int) := by omega
                clear hJ c0 c1
                generalize r[k].2.2 = ta at *
                obtain ⟨tb, htb⟩ : ∃ tb, upZ ta = tb := ⟨_, rfl⟩
                have cw : IntKind.i64.wrap (ta + 1) = tb := htb
                rw [htb] at hst
                have HST := Lib.hid hst
                clear hst htb
                go_wp2
                go_roundg gh
                case measure => omega
                case rel => exact ⟨k + 1, by go_num, by omega, HST.out⟩
            | zero =>
              have hkl : ¬ ((k : Int) < (r.length : Int)) := by omega
              have hke : k = r.length := by omega
              subst hke
              clear hJ
              have HC4 := Lib.hid (HC3.out.trans (HJ.out.bel.mono HG1.out))
              have HCA4 := Lib.hid HJ.out.ce
              have hcb : CE r gb 0 wr := HCB.out.other (by
                rcases HLA.out with h0 | h0
                · exact .inl h0
                · exact .inr (by have := h0.2.2; have := HG2.out; omega)) HJ.out.oth HJ.out.fot
              have HU2 := Lib.hid (UpI.start hcb)
              clear hcb HJ
              generalize wr = w4 at *
              go_wp2
              go_loopg [13] r.length (fun gh u wx => ∃ k : Nat, u = .int .i64 (k : Int) ∧ k + gh = r.length ∧ UpI r gb k w4 wx)
              case atStart => exact ⟨0, rfl, by omega, HU2.out⟩
              case round =>
                obtain ⟨k, rfl, hkg, hJ⟩ := hrel
                have HJ := Lib.hid hJ
                cases gk with
                | succ gh =>
                  have hkl : (k : Int) < (r.length : Int) := by omega
                  have hlt : k < r.length := by omega
                  have hk0 : (0 : Int) ≤ (k : Int) := by omega
                  rcases HLB.out with h0 | ⟨rfl, hcap, _⟩
                  · omega
                  · obtain ⟨c0, c1, c2⟩ := hJ.ce.cell k hlt
                    have f2 := hJ.ce.fro k hlt
                    have hst := hJ.step hlt
                    rw [if_neg (by omega)] at c2
                    have hcapI : (r.length : Int) ≤ (cap4 : Int) := by omega
                    clear hJ c0 c1
                    generalize r[k].2.2 = ta at *
                    obtain ⟨tb, htb⟩ : ∃ tb, upZ ta = tb := ⟨_, rfl⟩
                    have cw : IntKind.i64.wrap (ta + 1) = tb := htb
                    rw [htb] at hst
                    have HST := Lib.hid hst
                    clear hst htb
                    go_wp2
                    go_roundg gh
                    case measure => omega
                    case rel => exact ⟨k + 1, by go_num, by omega, HST.out⟩
                | zero =>
                  have hkl : ¬ ((k : Int) < (r.length : Int)) := by omega
                  have hke : k = r.length := by omega
                  subst hke
                  clear hJ
                  have hC5 := HC4.out.trans (HJ.out.bel.mono (Nat.le_trans HC2.out.size HG2.out))
                  have hceA : CE r ga r.length wr := HCA4.out.other (by
                    rcases HLA.out with h0 | h0
                    · exact .inl h0
                    · exact .inr (by have := h0.2.2; have := HG2.out; omega)) HJ.out.oth HJ.out.fot
                  have HTA := Lib.hid (ce_read hceA HLA.out)
                  have HTB := Lib.hid (ce_read HJ.out.ce HLB.out)
                  have hB5 := HB1.out.trans (hC5.mono HB1.out.size)
                  have HB5 := Lib.hid hB5
                  have HTW := Lib.hid (HT.out.below hB5)
                  have HTO := Lib.hid (HT1o.out.below hC5)
                  have HM5 := Lib.hid (HM.out.below hB5)
                  clear hB5 hC5 hceA
                  have h1 := fun w9 (h8 : TR w9 (.slice a3 r.length cap3) (r.map upT)) (h9 : TR w9 (.slice a4 r.length cap4) (r.map upT)) => same_yes _ _ (r.map upT) (r.map upT) true w9 h8 h9 (by rw [List.length_map]; omega) (Alike.refl _ _)
                  have HS1 := Lib.hid h1
                  have h2 := fun w9 (h8 : TR w9 vo l) (h9 : TR w9 (.slice (some ad) l.length c0) l) => same_yes _ _ l l true w9 h8 h9 (by omega) (Alike.refl _ _)
                  have HS2 := Lib.hid h2
                  clear h1 h2
                  go_wp2_with fail
                  refine (HS1.out _ HTA.out HTB.out).mono ?_
                  rintro e w6 ⟨rfl, n6, rfl⟩
                  have HB6 := Lib.hid (HB5.out.trans ((below_drewN_ (Below.refl _ _) n6).mono HB5.out.size))
                  have HT6 := Lib.hid (HTW.out.drewN n6)
                  have HO6 := Lib.hid (HTO.out.drewN n6)
                  have HM6 := Lib.hid (HM5.out.drewN n6)
                  generalize wr.drewN n6 = w6 at *
                  go_wp2_with fail
                  refine (HS2.out _ HO6.out HT6.out).mono ?_
                  rintro e w7 ⟨rfl, n7, rfl⟩
                  have HB7 := Lib.hid (HB6.out.trans ((below_drewN_ (Below.refl _ _) n7).mono HB6.out.size))
                  have HT7 := Lib.hid (HT6.out.drewN n7)
                  have HM7 := Lib.hid (HM6.out.drewN n7)
                  generalize w6.drewN n7 = w7 at *
                  go_wp2_with fail
                  refine (HBI.out _ HT7.out).mono ?_
                  rintro e w8 ⟨rfl, hb8⟩
                  have HB8 := Lib.hid (HB7.out.trans (hb8.mono HB7.out.size))
                  have HT8 := Lib.hid (HT7.out.below hb8)
                  have HM8 := Lib.hid (HM7.out.below hb8)
                  clear hb8
                  go_wp2_with fail
                  refine (HRB.out _ HT8.out).mono ?_
                  rintro e w9 ⟨rfl, hb9⟩
                  have HB9 := Lib.hid (HB8.out.trans (hb9.mono HB8.out.size))
                  have HM9 := Lib.hid (HM8.out.below hb9)
                  clear hb9
                  go_wp2_with (go_at_call 8; (with_reducible refine (HK.out _ HM9.out).mono ?_); rintro e w10 ⟨rfl, hb10⟩)
                  go_ret
                  exact ⟨rfl, HB9.out.trans (hb10.mono HB9.out.size)⟩

theorem own : ownKnob Tryz.prog.godebug = none := by kernel_rfl
theorem laidOut : laidOutB Tryz.prog = true := by kernel_rfl
theorem weights_at {H : Type} {P : Program} {ts : List TypeId} {ds : List (DataW H)} (h : (DataW.weightsEach P ts ds).all (· ≤ reachBytes) = true) (j : Nat) {t : TypeId} {d : DataW H} (ht : ts[j]? = some t) (hd : ds[j]? = some d) : (DataW.weights P t d).all (· ≤ reachBytes) = true :=
  List.all_eq_true.2 fun x hx => List.all_eq_true.1 h x (DataW.weights_mem_each ht hd x hx)

set_option maxRecDepth 100000 in
theorem lifted (os : Os) (started : os.Started) (H : Type) (enc : TypeId × Value → H) :
    ReturnsInHanded {} Tryz.checked os 4 .any (fun w args => (Rows.normFillsSpec.pre enc Tryz.prog Tryz.f4 Rows.normFillsRow.domain false w args ∧ laidMetH Tryz.prog Rows.normFillsRow.laid w) ∧ sizedMet enc Tryz.prog Tryz.f4 (OpenSpec.ofChange Rows.normFillsSpec) false w args) (Rows.normFillsSpec.post enc Tryz.prog Tryz.f4 false true false false) := by
  refine returns_card (C := Tryz.checked) (X := fun w _ => laidMetH Tryz.prog Rows.normFillsRow.laid w) own started (by kernel_rfl) Tryz.func4
    (ChangeSpec.witness_shaped (enc := enc) (C := Tryz.checked) (os := os) (X := fun w _ => laidMetH Tryz.prog Rows.normFillsRow.laid w) false (World.laidAll Tryz.prog os Rows.normFillsRow.laid) #[.slice none 0 0, .slice none 0 0, .slice none 0 0] 8 (World.laidAll_os _ _ _)
      (World.shaped_of_ZipB (by kernel_rfl) (by kernel_rfl)) (by kernel_rfl) (by kernel_rfl) (by kernel_rfl)
      (by rw [MakeChecks.laidMetH_plain _ _ _ (by kernel_rfl)]; exact laidMet_laidAll _ (by kernel_rfl) (by kernel_rfl))) ?_
  intro W base args ds gs before hval0 hW hcnd hsz0 hSh _
  have hsz : (DataW.weightsEach Tryz.prog (Tryz.f4.params.toList ++ Rows.normFillsSpec.plain.varTypes Tryz.prog) (ds ++ gs)).all (· ≤ reachBytes) = true := hsz0
  clear hsz0
  have hval : ∀ (j : Nat) t v, Tryz.f4.params[j]? = some t → args[j]? = some v → Value.okWide Tryz.prog W .any base t v := hval0
  have hW' := hW
  obtain ⟨p, q, hA0, hV, rfl, hfz, hnd⟩ := hW
  have hA : DataW.TrodAll enc Tryz.prog W 0 (fun _ => true) true Tryz.f4.params.toList args.toList ds p := hA0
  rw [Tryz.params4] at hA hval hsz
  obtain ⟨v0, vs0, d0, ds0, p0, q0, hargs, rfl, rfl, h0, r0⟩ := trodAll_cons hA
  obtain ⟨v1, vs1, d1, ds1, p1, q1, rfl, rfl, rfl, h1, r1⟩ := trodAll_cons r0
  obtain ⟨v2, vs2, d2, ds2, p2, q2, rfl, rfl, rfl, h2, r2⟩ := trodAll_cons r1
  obtain ⟨rfl, rfl, rfl⟩ := trodAll_nil r2
  obtain rfl : args = #[v0, v1, v2] := by cases args; simp_all
  obtain ⟨rfl, rfl⟩ := trodVars_none hV
  have k0 := h0
  have lt0 : ∀ x ∈ p0, x.block < W.heap.size := by obtain ⟨m, hm⟩ := k0; exact DataW.trod_lt m _ _ _ hm
  have f0 := opened_toks (hval 0 22 v0 rfl rfl) h0 (weights_at hsz 0 rfl rfl)
  have k1 := h1
  have lt1 : ∀ x ∈ p1, x.block < W.heap.size := by obtain ⟨m, hm⟩ := k1; exact DataW.trod_lt m _ _ _ hm
  have f1 := opened_strs (hval 1 30 v1 rfl rfl) h1 (weights_at hsz 1 rfl rfl)
  have k2 := h2
  have lt2 : ∀ x ∈ p2, x.block < W.heap.size := by obtain ⟨m, hm⟩ := k2; exact DataW.trod_lt m _ _ _ hm
  have f2 := opened_bools (hval 2 31 v2 rfl rfl) h2 (weights_at hsz 2 rfl rfl)
  clear hA0 hval0
  refine (walk v0 v1 v2 W f0 f1 f2 (the_word hSh)).mono fun e W' ⟨he, bel⟩ => ?_
  subst he
  exact ⟨_, rfl, _, _, _, [], _, [], hW', trodAll_mk1 (shut_bool Tryz.underlying4 _), (trodAll_cons_mk (Below.trod laidOut (by kernel_rfl) (of_decide_eq_true (by kernel_rfl)) k0 bel lt0) (trodAll_cons_mk (Below.trod laidOut (by kernel_rfl) (of_decide_eq_true (by kernel_rfl)) k1 bel lt1) (trodAll_cons_mk (Below.trod laidOut (by kernel_rfl) (of_decide_eq_true (by kernel_rfl)) k2 bel lt2) trodAll_mk0))), rfl, bel.frame _, fun h => by cases h⟩

theorem over : Rows.normFillsRow.holds Tryz.pinned (OpenSpec.ofChange Rows.normFillsSpec) :=
  OpenClaim.holds_of_wide 4 Tryz.f4 rfl rfl rfl rfl rfl rfl rfl ⟨rfl, rfl, rfl, rfl, rfl⟩ rfl rfl rfl rfl rfl (by kernel_rfl) Tryz.func4 (by kernel_rfl)
    (of_decide_eq_true (by kernel_rfl)) (by unfold Func.isWrapper; rw [if_neg (by decide +kernel)]; exact ⟨rfl, rfl⟩)
    (fun os started H enc _ => lifted os started H enc)

theorem proved : Rows.NormFillsCardSaid :=
  Claim7.holds_tied_plain_at .later [] [.data, .data, .data, .data, .sentinel, .sentinel, .pinned] true Rows.normFillsCard.stood.harness true over (fun _ h => by cases h) (by kernel_rfl) (fun _ h => by cases h) normFills_row_tie rfl ⟨rfl, rfl⟩ (by kernel_rfl) rfl
    (fun f fn hf hfn => by
      obtain rfl : f = 4 := Option.some.inj ((show Tryz.prog.funcNamed "pontoon/pontoonlaw05.NormFills" = some 4 by kernel_rfl).symm.trans hf) |>.symm
      obtain rfl : fn = Tryz.f4 := (Option.some.inj (Tryz.func4.symm.trans hfn)).symm
      refine ⟨by kernel_rfl, fun j t ht => ?_⟩
      have hall : (Tryz.f4.params.toList.all fun u => !Tryz.prog.wantsStandIn u) = true := by kernel_rfl
      have hm : t ∈ Tryz.f4.params.toList := Array.mem_toList_iff.2 (Array.mem_of_getElem? ht)
      have := List.all_eq_true.1 hall t hm
      exact (show Tryz.prog.wantsStandIn t = false by simpa using this))
    (by kernel_rfl)
end Go.Proofs.YtgnpkpboilnijaaGreatDoor.normFills
