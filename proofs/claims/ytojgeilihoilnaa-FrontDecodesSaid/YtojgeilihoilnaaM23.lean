/- What the document's own Right answers. Condition: Few.
   What the document's own Right and Encode answer, for every ask. Condition: Few. -/
import Derived.Test.YtojgeilihoilnaaM22
import Derived.Deep.RegionHeld3
set_option linter.unusedSimpArgs false
set_option linter.unusedVariables false
namespace Go.Proofs.Ytojgeilihoilnaa
open Go.ChangeShapes Go.WideShapes Go.ChangeAt Go.RowKit
set_option linter.unusedVariables false
set_option linter.unusedSimpArgs false

theorem zip_mem (az : List Tx) (ns : List Bool) (k : Nat) (h : k < az.length) (h2 : k < ns.length) : (az[k], ns[k]) ∈ az.zip ns := by
  have hk : k < (az.zip ns).length := by rw [List.length_zip]; omega
  have e : (az.zip ns)[k] = (az[k], ns[k]) := by simp
  rw [← e]; exact List.getElem_mem hk
theorem zip_take (az : List Tx) (ns : List Bool) (k : Nat) (h : k < az.length) (h2 : k < ns.length) : (az.take (k + 1)).zip (ns.take (k + 1)) = (az.take k).zip (ns.take k) ++ [(az[k], ns[k])] := by
  rw [List.take_succ_eq_append_getElem h, List.take_succ_eq_append_getElem h2, List.zip_append (by rw [List.length_take, List.length_take]; omega)]
  rfl
theorem u8_ne (x y : UInt8) (h : x ≠ y) : ((x.toNat : Int) == (y.toNat : Int)) = false := by
  rw [beq_eq_false_iff_ne]
  intro e
  exact h (UInt8.toNat_inj.1 (Int.ofNat_inj.1 e))
theorem lask_ (w : World) (g : Nat) (cs : Array Value) (hb : Blk w g 29 cs) (hz : cs.size = 14) {f : Operand → Value} {x : Nat} {d : Option Tmp} {ty : TypeId} {pos : String} {aft : Array Edge} {gd : Option (Nat × Bool)} (hx : f (.tmp x) = .pointer (some ⟨g, 0, none⟩)) :
    (execOp f { dst := d, op := .load 29 (.tmp x), type := ty, pos := pos, after := aft, guard := gd }).run Try.prog w = .ok (.value (.agg cs)) w := by
  have h := st_load_ask w g cs hb hz
  unfold execOp
  simp only [hx, Sem.run_bind, Sem.run_pure, h, Result.andThen_ok]
theorem rr_b (a : Ask) (f : Few a) (n : Int) (hn : (a.kind.toNat : Int) = n) (w : World) : Calls Try.prog 27 #[.agg #[.int .u8 n, .string (ba (body a))]] w fun e w' => e = .returned (.bool (rightL (a.kind, body a))) ∧ Below w.heap.size w w' := by
  subst hn
  have hb : (body a).length ≤ 1000000000 := by
    unfold body
    cases kd a.kind with
    | none => simp
    | some d => exact body_few a f d
  have := rright_any a.kind (ba (body a)) w (by rw [ba_size]; omega)
  rw [ba_list] at this
  exact this
def RRP (a : Ask) (w : World) (e : Ending) (w' : World) : Prop := ∃ b, e = .returned (.bool b) ∧ (b = true ↔ RightP a) ∧ Below w.heap.size w w'
theorem rrp_no {a : Ask} {w w' : World} (h : ¬ RightP a) (hB : Below w.heap.size w w') : RRP a w (.returned (.bool false)) w' := ⟨false, rfl, ⟨fun e => (Bool.false_ne_true e).elim, fun e => absurd e h⟩, hB⟩
set_option maxHeartbeats 2000000 in
set_option maxRecDepth 100000 in
theorem rr_main (w : World) (a : Ask) (v : Value) (f : Few a) (har : AR (fun i => i < w.heap.size) w v a) (HK : Hid (decide (Kept a) = true)) (d1 : ((a.keys.length : Int) != (a.vals.length : Int)) = false) (d2 : ((a.null.length : Int) != (a.args.length : Int)) = false) (d3 : decide ((100 : Int) < (a.args.length : Int)) = false) (d4 : decide ((100 : Int) < (a.formats.length : Int)) = false) (d5 : decide ((100 : Int) < (a.keys.length : Int)) = false) (P0 : Hid (decide (∀ t ∈ [a.name, a.portal, a.sql], 0 ∉ t) = true)) (P1 : Hid (decide (∀ t ∈ a.keys, 0 ∉ t) = true)) (P2 : Hid (decide (∀ t ∈ a.vals, 0 ∉ t) = true)) (F1 : Hid (decide (four a.pid) = true)) (F2 : Hid (decide (four a.secret) = true)) (d11 : decide (a.most < (0 : Int)) = false) (F3 : Hid (decide (four a.most) = true)) :
    Calls Try.prog 16 #[v] w fun e w' => RRP a w e w' := by
  have HAR := Lib.hid har
  obtain ⟨kv, vv, av, nv, fv, rfl, h4, h5, h6, h7, h8⟩ := har.ex
  obtain ⟨A4, c4, e4, hc4, hd4⟩ := h4.form
  rw [strs_len] at e4 hc4
  subst e4
  obtain ⟨A5, c5, e5, hc5, hd5⟩ := h5.form
  rw [strs_len] at e5 hc5
  subst e5
  obtain ⟨A6, c6, e6, hc6, hd6⟩ := h6.form
  rw [strs_len] at e6 hc6
  subst e6
  obtain ⟨A7, c7, e7, hc7, hd7⟩ := h7.form
  rw [bools_len] at e7 hc7
  subst e7
  obtain ⟨A8, c8, e8, hc8, hd8⟩ := h8.form
  rw [ints_len] at e8 hc8
  subst e8
  have q0 := Blk.new w 29 (askV a (.slice A4 a.keys.length c4) (.slice A5 a.vals.length c5) (.slice A6 a.args.length c6) (.slice A7 a.null.length c7) (.slice A8 a.formats.length c8))
  have hB := bel_alloc w (.cells (askV a (.slice A4 a.keys.length c4) (.slice A5 a.vals.length c5) (.slice A6 a.args.length c6) (.slice A7 a.null.length c7) (.slice A8 a.formats.length c8)) 29)
  have bxa := bx_new w a _ har
  have H4 := Lib.hid h4
  have H5 := Lib.hid h5
  have H6 := Lib.hid h6
  have H7 := Lib.hid h7
  have H8 := Lib.hid h8
  have HF := Lib.hid f
  clear har h4 h5 h6 h7 h8 f
  go_enter Try.func16, Try.ntmps16
  go_upto_region 1 with fail
  refine wp_region_lit ?_
  change wpList _ _ _ _ _ (w.alloc (.cells (askV a (.slice A4 a.keys.length c4) (.slice A5 a.vals.length c5) (.slice A6 a.args.length c6) (.slice A7 a.null.length c7) (.slice A8 a.formats.length c8)) 29))
  generalize w.alloc (.cells (askV a (.slice A4 a.keys.length c4) (.slice A5 a.vals.length c5) (.slice A6 a.args.length c6) (.slice A7 a.null.length c7) (.slice A8 a.formats.length c8)) 29) = W at *
  go_wp2_with (first
    | ((with_reducible refine load_box (op := ⟨some 6, .load 29 (.tmp 1), _, _, _, _⟩) 1 _ _ ?_ rfl ?_ bxa ?_); (· rfl); (· rfl); (intro kv6 vv6 av6 nv6 fv6 har6))
    | (go_at_call 24; (with_reducible refine (kept_b _ a _ har6 true HK.out).mono ?_); rintro e w1 ⟨rfl, hbz⟩; replace q0 := q0.below hbz q0.lt; replace bxa := bxa.below hbz; replace hB := grow_ hB hbz; clear hbz har6; have x1 : w1.cell? ⟨w.heap.size, 1, none⟩ = some (.string (ba a.name)) := q0.cell 1; have x2 : w1.cell? ⟨w.heap.size, 2, none⟩ = some (.string (ba a.portal)) := q0.cell 2; have x3 : w1.cell? ⟨w.heap.size, 3, none⟩ = some (.string (ba a.sql)) := q0.cell 3; have x4 : w1.cell? ⟨w.heap.size, 4, none⟩ = some (.slice A4 a.keys.length c4) := q0.cell 4; have x5 : w1.cell? ⟨w.heap.size, 5, none⟩ = some (.slice A5 a.vals.length c5) := q0.cell 5; have x6 : w1.cell? ⟨w.heap.size, 6, none⟩ = some (.slice A6 a.args.length c6) := q0.cell 6; have x7 : w1.cell? ⟨w.heap.size, 7, none⟩ = some (.slice A7 a.null.length c7) := q0.cell 7; have x8 : w1.cell? ⟨w.heap.size, 8, none⟩ = some (.slice A8 a.formats.length c8) := q0.cell 8)
    | (go_at_call 25; (with_reducible refine (plain_b _ _ _ true P0.out (lr_three w1 a) (three_len a) (three_few HF.out)).mono ?_); rintro e w2 ⟨rfl, hw⟩; replace q0 := q0.alloc (.cells #[.string (ba a.name), .string (ba a.portal), .string (ba a.sql)] 9); replace bxa := bxa.below (bel_alloc w1 (.cells #[.string (ba a.name), .string (ba a.portal), .string (ba a.sql)] 9)); replace hB := grow_ hB (bel_alloc w1 (.cells #[.string (ba a.name), .string (ba a.portal), .string (ba a.sql)] 9)); rw [← hw] at q0 bxa hB; clear hw; have x4 : w2.cell? ⟨w.heap.size, 4, none⟩ = some (.slice A4 a.keys.length c4) := q0.cell 4; have x5 : w2.cell? ⟨w.heap.size, 5, none⟩ = some (.slice A5 a.vals.length c5) := q0.cell 5; have x6 : w2.cell? ⟨w.heap.size, 6, none⟩ = some (.slice A6 a.args.length c6) := q0.cell 6; have x7 : w2.cell? ⟨w.heap.size, 7, none⟩ = some (.slice A7 a.null.length c7) := q0.cell 7; have x8 : w2.cell? ⟨w.heap.size, 8, none⟩ = some (.slice A8 a.formats.length c8) := q0.cell 8; have x9 : w2.cell? ⟨w.heap.size, 9, none⟩ = some (.int .i64 a.most) := q0.cell 9; have x12 : w2.cell? ⟨w.heap.size, 12, none⟩ = some (.int .i64 a.pid) := q0.cell 12; have x13 : w2.cell? ⟨w.heap.size, 13, none⟩ = some (.int .i64 a.secret) := q0.cell 13)
    | (go_at_call 25; (with_reducible refine (plain_b _ a.keys _ true P1.out (lr_up H4.out hB) HF.out.keys HF.out.keysT).mono ?_); rintro e w3 ⟨rfl, rfl⟩)
    | (go_at_call 25; (with_reducible refine (plain_b _ a.vals _ true P2.out (lr_up H5.out hB) HF.out.vals HF.out.valsT).mono ?_); rintro e w3 ⟨rfl, rfl⟩)
    | (go_at_call 26; (with_reducible refine (four_b a.pid _ true F1.out).mono ?_); rintro e w3 ⟨rfl, rfl⟩)
    | (go_at_call 26; (with_reducible refine (four_b a.secret _ true F2.out).mono ?_); rintro e w3 ⟨rfl, rfl⟩)
    | (go_at_call 26; (with_reducible refine (four_b a.most _ true F3.out).mono ?_); rintro e w3 ⟨rfl, rfl⟩))
  have D1 := Lib.hid d1
  have D2 := Lib.hid d2
  have n3 : a.args.length ≤ 100 := by have := of_decide_eq_false d3; omega
  have n4 : a.formats.length ≤ 100 := by have := of_decide_eq_false d4; omega
  have n5 : a.keys.length ≤ 100 := by have := of_decide_eq_false d5; omega
  have m0 : 0 ≤ a.most := by have := of_decide_eq_false d11; omega
  have eqk : a.keys.length = a.vals.length := Int.ofNat_inj.1 (by simpa using d1)
  have eqn : a.null.length = a.args.length := Int.ofNat_inj.1 (by simpa using d2)
  have EK := Lib.hid eqk
  have EN := Lib.hid eqn
  clear d1 d2 d3 d4 d5 d11 D1 D2 eqk eqn x1 x2 x3
  have x0 : w3.cell? ⟨w.heap.size, 0, none⟩ = some (u8 a.kind) := q0.cell 0
  have x10 : w3.cell? ⟨w.heap.size, 10, none⟩ = some (u8 a.what) := q0.cell 10
  unfold u8 at x0 x10
  have Q0 := Lib.hid q0
  have BX := Lib.hid bxa
  have HB := Lib.hid hB
  have M0 := Lib.hid m0
  clear q0 bxa hB m0
  go_loop [3] (fun i => ∃ k : Nat, k ≤ a.keys.length ∧ i = .int .i64 k ∧ ∀ t ∈ a.keys.take k, t ≠ []) (fun i => a.keys.length - (intOf i).toNat)
  case atStart => exact ⟨0, Nat.zero_le _, rfl, by simp⟩
  case round =>
    obtain ⟨k, hk, rfl, hs⟩ := hrel
    have HS := Lib.hid hs
    clear hs
    by_cases hlt : k < a.keys.length
    · obtain ⟨p, o, rfl, hp, hg⟩ := (lr_up H4.out HB.out).addr (ne_strs hlt)
      have x := hg k _ (strs_get a.keys k hlt)
      have i0 : (0 : Int) ≤ (k : Int) := by omega
      have i1 : (k : Int) < (a.keys.length : Int) := by omega
      have HM := Lib.hid (List.getElem_mem hlt)
      have HT := Lib.hid (List.take_succ_eq_append_getElem hlt)
      clear hg
      generalize a.keys[k] = t at *
      by_cases e : t = []
      · have he : (ba t).toList.isEmpty = true := by rw [Lib.toList_data, ba_list, e]; rfl
        have E := Lib.hid e
        clear e
        go_wp2
        go_ret
        exact rrp_no (fun h => h.1.keysN t HM.out E.out) HB.out
      · have he : (ba t).toList.isEmpty = false := by rw [Lib.toList_data, ba_list, List.isEmpty_eq_false_iff]; exact e
        have E := Lib.hid e
        clear e
        go_wp2
        go_round
        case rel =>
          refine ⟨k + 1, by omega, by go_num, ?_⟩
          rw [HT.out]
          intro u hu
          rcases List.mem_append.1 hu with h1 | h1
          · exact HS.out u h1
          · simp at h1; rw [h1]; exact E.out
        case measure => simp [intOf]; omega
    · have KN : Hid (∀ t ∈ a.keys, t ≠ []) := Lib.hid (by have h := HS.out; rwa [List.take_of_length_le (by omega)] at h)
      clear HS
      go_wp2
      clear hk hlt
      go_loop [4] (fun i => ∃ k : Nat, k ≤ a.args.length ∧ i = .int .i64 k ∧ ∀ p ∈ (a.args.take k).zip (a.null.take k), p.2 = true → p.1 = []) (fun i => a.args.length - (intOf i).toNat)
      case atStart => exact ⟨0, Nat.zero_le _, rfl, by simp⟩
      case round =>
        obtain ⟨k, hk, rfl, hs⟩ := hrel
        have HS := Lib.hid hs
        clear hs
        by_cases hlt : k < a.args.length
        · have hlt2 : k < a.null.length := by rw [EN.out]; exact hlt
          obtain ⟨p, o, rfl, hp, hg⟩ := (lr_up H6.out HB.out).addr (ne_strs hlt)
          obtain ⟨p2, o2, rfl, hp2, hg2⟩ := (lr_up H7.out HB.out).addr (ne_bools hlt2)
          have y := hg k _ (strs_get a.args k hlt)
          have y2 := hg2 k _ (bools_get a.null k hlt2)
          have i0 : (0 : Int) ≤ (k : Int) := by omega
          have i1 : (k : Int) < (a.args.length : Int) := by omega
          have i2 : (k : Int) < (a.null.length : Int) := by omega
          have HM := Lib.hid (zip_mem a.args a.null k hlt hlt2)
          have HT := Lib.hid (zip_take a.args a.null k hlt hlt2)
          clear hg hg2
          generalize a.args[k] = t at *
          generalize a.null[k] = nb at *
          cases nb with
          | false =>
            have HR : Hid (∀ p ∈ (a.args.take (k + 1)).zip (a.null.take (k + 1)), p.2 = true → p.1 = []) := Lib.hid (by
              rw [HT.out]
              intro u hu
              rcases List.mem_append.1 hu with h1 | h1
              · exact HS.out u h1
              · simp at h1; rw [h1]; intro e; cases e)
            go_wp2
            go_round
            case rel => exact ⟨k + 1, by omega, by go_num, HR.out⟩
            case measure => simp [intOf]; omega
          | true =>
            by_cases e : t = []
            · have he : (ba t).toList.isEmpty = true := by rw [Lib.toList_data, ba_list, e]; rfl
              have HR : Hid (∀ p ∈ (a.args.take (k + 1)).zip (a.null.take (k + 1)), p.2 = true → p.1 = []) := Lib.hid (by
                rw [HT.out]
                intro u hu
                rcases List.mem_append.1 hu with h1 | h1
                · exact HS.out u h1
                · simp at h1; rw [h1]; intro _; exact e)
              clear e
              go_wp2
              go_round
              case rel => exact ⟨k + 1, by omega, by go_num, HR.out⟩
              case measure => simp [intOf]; omega
            · have he : (ba t).toList.isEmpty = false := by rw [Lib.toList_data, ba_list, List.isEmpty_eq_false_iff]; exact e
              have E := Lib.hid e
              clear e
              go_wp2
              go_ret
              exact rrp_no (fun h => E.out (h.1.nulls (t, true) HM.out rfl)) HB.out
        · have NN : Hid (∀ p ∈ a.args.zip a.null, p.2 = true → p.1 = []) := Lib.hid (by have h := HS.out; have e := EN.out; rwa [List.take_of_length_le (by omega), List.take_of_length_le (by omega)] at h)
          clear HS
          go_wp2
          clear hk hlt
          go_loop [5] (fun i => ∃ k : Nat, k ≤ a.formats.length ∧ i = .int .i64 k ∧ ∀ f ∈ a.formats.take k, 0 ≤ f ∧ f ≤ 1) (fun i => a.formats.length - (intOf i).toNat)
          case atStart => exact ⟨0, Nat.zero_le _, rfl, by simp⟩
          case round =>
            obtain ⟨k, hk, rfl, hs⟩ := hrel
            have HS := Lib.hid hs
            clear hs
            by_cases hlt : k < a.formats.length
            · obtain ⟨p, o, rfl, hp, hg⟩ := (lr_up H8.out HB.out).addr (ne_ints hlt)
              have y := hg k _ (ints_get a.formats k hlt)
              have i0 : (0 : Int) ≤ (k : Int) := by omega
              have i1 : (k : Int) < (a.formats.length : Int) := by omega
              have HM := Lib.hid (List.getElem_mem hlt)
              have HT := Lib.hid (List.take_succ_eq_append_getElem hlt)
              clear hg
              generalize a.formats[k] = t at *
              by_cases e0 : t < 0
              · have he : decide (t < (0 : Int)) = true := decide_eq_true e0
                have E := Lib.hid e0
                clear e0
                go_wp2
                go_ret
                exact rrp_no (fun h => by have := h.1.fmts t HM.out; have := E.out; omega) HB.out
              · have he : decide (t < (0 : Int)) = false := decide_eq_false e0
                by_cases e1 : 1 < t
                · have he1 : decide ((1 : Int) < t) = true := decide_eq_true e1
                  have E := Lib.hid e1
                  clear e0 e1
                  go_wp2
                  go_ret
                  exact rrp_no (fun h => by have := h.1.fmts t HM.out; have := E.out; omega) HB.out
                · have he1 : decide ((1 : Int) < t) = false := decide_eq_false e1
                  have HR : Hid (∀ f ∈ a.formats.take (k + 1), 0 ≤ f ∧ f ≤ 1) := Lib.hid (by
                    rw [HT.out]
                    intro u hu
                    rcases List.mem_append.1 hu with h1 | h1
                    · exact HS.out u h1
                    · simp at h1; rw [h1]; omega)
                  clear e0 e1
                  go_wp2
                  go_round
                  case rel => exact ⟨k + 1, by omega, by go_num, HR.out⟩
                  case measure => simp [intOf]; omega
            · have FN : Hid (∀ f ∈ a.formats, 0 ≤ f ∧ f ≤ 1) := Lib.hid (by have h := HS.out; rwa [List.take_of_length_le (by omega)] at h)
              clear HS
              have GW : Hid ((kd a.kind = some .named → a.what = 83 ∨ a.what = 80) → Good a) := Lib.hid (fun hw => { kept := of_decide_eq_true HK.out, vals := EK.out, null := EN.out, args100 := n3, fmts100 := n4, keys100 := n5, name0 := of_decide_eq_true P0.out a.name (by simp), portal0 := of_decide_eq_true P0.out a.portal (by simp), sql0 := of_decide_eq_true P0.out a.sql (by simp), keys0 := of_decide_eq_true P1.out, vals0 := of_decide_eq_true P2.out, pid4 := of_decide_eq_true F1.out, secret4 := of_decide_eq_true F2.out, most0 := M0.out, most4 := of_decide_eq_true F3.out, keysN := KN.out, nulls := NN.out, fmts := FN.out, what := hw })
              by_cases hn : kd a.kind = some .named
              · have hk : a.kind = 68 ∨ a.kind = 67 := by
                  rcases kd_inv a.kind with h | ⟨_, h⟩ | ⟨_, h⟩ | ⟨_, h⟩ | ⟨_, h⟩ | ⟨_, h⟩ | ⟨hd, h⟩ | ⟨_, h⟩
                  all_goals first | exact hd | (rw [h] at hn; cases hn)
                have HN := Lib.hid hn
                clear hn
                rcases hk with hk | hk
                · have hk2 : (a.kind.toNat : Int) = 68 := by rw [hk]; rfl
                  rw [hk2] at x0
                  have HK2 := Lib.hid hk2
                  clear hk hk2
                  by_cases w83 : a.what = 83
                  · have hw2 : (a.what.toNat : Int) = 83 := by rw [w83]; rfl
                    rw [hw2] at x10
                    have HW := Lib.hid (show a.what = 83 ∨ a.what = 80 from .inl w83)
                    clear w83 hw2
                    go_wp2
                    refine wp_region_held_drew (S := (fun w' => w'.cell? ⟨w.heap.size, 0, none⟩ = some (.int .u8 68) ∧ Blk w' w.heap.size 29 (askV a (.slice A4 a.keys.length c4) (.slice A5 a.vals.length c5) (.slice A6 a.args.length c6) (.slice A7 a.null.length c7) (.slice A8 a.formats.length c8)) ∧ Below w3.heap.size w3 w')) (by kernel_rfl) ?_ (fun hS => ?_)
                    · exact ⟨x0, Q0.out.drew_, bel_drew _⟩
                    try dsimp only at hS
                    refine wpAnyH_take (i := 0) (v := ?_) rfl (by kernel_rfl) (by kernel_rfl) (by kernel_rfl) (fun _ _ _ h => h) (Or.inl ⟨by kernel_rfl, ?_⟩) hS ?_
                    rotate_left
                    · intro wz hSz; try dsimp only at hSz
                      go_simp
                      all_goals with_reducible rfl
                    try simp only [Act.put, List.getElem_toArray, List.getElem_cons_succ, List.getElem_cons_zero, List.setIfInBounds_toArray, List.set_cons_zero, List.set_cons_succ]
                    refine wpAnyH_take (i := 1) (v := ?_) rfl (by kernel_rfl) (by kernel_rfl) (by kernel_rfl) (fun _ _ _ h => h) (Or.inl ⟨by kernel_rfl, ?_⟩) hS ?_
                    rotate_left
                    · intro wz hSz; try dsimp only at hSz
                      go_simp
                      all_goals with_reducible rfl
                    try simp only [Act.put, List.getElem_toArray, List.getElem_cons_succ, List.getElem_cons_zero, List.setIfInBounds_toArray, List.set_cons_zero, List.set_cons_succ]
                    refine wpAnyH_take (i := 2) (v := ?_) rfl (by kernel_rfl) (by kernel_rfl) (by kernel_rfl) (fun _ _ _ h => h) (Or.inl ⟨by kernel_rfl, ?_⟩) hS ?_
                    rotate_left
                    · intro wz hSz; try dsimp only at hSz
                      simp only [List.getElem_toArray, List.getElem_cons_succ, List.getElem_cons_zero]
                      refine lask_ _ _ _ hSz.2.1 rfl ?_
                      rfl
                    try simp only [Act.put, List.getElem_toArray, List.getElem_cons_succ, List.getElem_cons_zero, List.setIfInBounds_toArray, List.set_cons_zero, List.set_cons_succ]
                    refine wpAnyH_ready (rs := [3]) (by kernel_rfl) (by simp) (AllReadyH.cons rfl (fun K hK => ?_) AllReadyH.nil)
                    go_simp
                    (go_at_call 20; refine (rbody_any _ a _ HF.out EK.out EN.out (HAR.out.grow (grow_ HB.out hS.2.2))).mono ?_; rintro e wq ⟨rfl, hb⟩)
                    refine hK.out _ _ ?_ (fun hSn => ?_)
                    · exact ⟨((bcell hb).1 _ _ hS.2.1.lt).trans hS.1, hS.2.1.below hb hS.2.1.lt, grow_ hS.2.2 hb⟩
                    clear hK K hS
                    have hS := hSn
                    clear hSn
                    try dsimp only at hS
                    try simp only [Act.put, List.getElem_toArray, List.getElem_cons_succ, List.getElem_cons_zero, List.setIfInBounds_toArray, List.set_cons_zero, List.set_cons_succ]
                    refine wpAnyH_take (i := 4) (v := ?_) rfl (by kernel_rfl) (by kernel_rfl) (by kernel_rfl) (fun _ _ _ h => h) (Or.inl ⟨by kernel_rfl, ?_⟩) hS ?_
                    rotate_left
                    · intro wz hSz; try dsimp only at hSz
                      go_simp
                      all_goals with_reducible rfl
                    try simp only [Act.put, List.getElem_toArray, List.getElem_cons_succ, List.getElem_cons_zero, List.setIfInBounds_toArray, List.set_cons_zero, List.set_cons_succ]
                    refine wpAnyH_ready (rs := [5]) (by kernel_rfl) (by simp) (AllReadyH.cons rfl (fun K hK => ?_) AllReadyH.nil)
                    go_simp
                    (go_at_call 27; refine (rr_b a HF.out _ HK2.out _).mono ?_; rintro e wq ⟨rfl, hb⟩)
                    refine hK.out _ _ ?_ (fun hSn => ?_)
                    · exact ⟨((bcell hb).1 _ _ hS.2.1.lt).trans hS.1, hS.2.1.below hb hS.2.1.lt, grow_ hS.2.2 hb⟩
                    clear hK K hS
                    have hS := hSn
                    clear hSn
                    try dsimp only at hS
                    try simp only [Act.put, List.getElem_toArray, List.getElem_cons_succ, List.getElem_cons_zero, List.setIfInBounds_toArray, List.set_cons_zero, List.set_cons_succ]
                    refine wpAnyH_take (i := 6) (v := ?_) rfl (by kernel_rfl) (by kernel_rfl) (by kernel_rfl) (fun _ _ _ h => h) (Or.inl ⟨by kernel_rfl, ?_⟩) hS ?_
                    rotate_left
                    · intro wz hSz; try dsimp only at hSz
                      go_simp
                      all_goals with_reducible rfl
                    try simp only [Act.put, List.getElem_toArray, List.getElem_cons_succ, List.getElem_cons_zero, List.setIfInBounds_toArray, List.set_cons_zero, List.set_cons_succ]
                    refine wpAnyH_done (by kernel_rfl) ?_ _
                    go_wp2
                    go_ret
                    exact ⟨_, rfl, ⟨fun e => ⟨GW.out (fun _ => HW.out), e⟩, fun h => h.2⟩, grow_ HB.out hS.2.2⟩
                  · by_cases w80 : a.what = 80
                    · have hw2 : (a.what.toNat : Int) = 80 := by rw [w80]; rfl
                      rw [hw2] at x10
                      have HW := Lib.hid (show a.what = 83 ∨ a.what = 80 from .inr w80)
                      clear w83 w80 hw2
                      go_wp2
                      refine wp_region_held_drew (S := (fun w' => w'.cell? ⟨w.heap.size, 0, none⟩ = some (.int .u8 68) ∧ Blk w' w.heap.size 29 (askV a (.slice A4 a.keys.length c4) (.slice A5 a.vals.length c5) (.slice A6 a.args.length c6) (.slice A7 a.null.length c7) (.slice A8 a.formats.length c8)) ∧ Below w3.heap.size w3 w')) (by kernel_rfl) ?_ (fun hS => ?_)
                      · exact ⟨x0, Q0.out.drew_, bel_drew _⟩
                      try dsimp only at hS
                      refine wpAnyH_take (i := 0) (v := ?_) rfl (by kernel_rfl) (by kernel_rfl) (by kernel_rfl) (fun _ _ _ h => h) (Or.inl ⟨by kernel_rfl, ?_⟩) hS ?_
                      rotate_left
                      · intro wz hSz; try dsimp only at hSz
                        go_simp
                        all_goals with_reducible rfl
                      try simp only [Act.put, List.getElem_toArray, List.getElem_cons_succ, List.getElem_cons_zero, List.setIfInBounds_toArray, List.set_cons_zero, List.set_cons_succ]
                      refine wpAnyH_take (i := 1) (v := ?_) rfl (by kernel_rfl) (by kernel_rfl) (by kernel_rfl) (fun _ _ _ h => h) (Or.inl ⟨by kernel_rfl, ?_⟩) hS ?_
                      rotate_left
                      · intro wz hSz; try dsimp only at hSz
                        go_simp
                        all_goals with_reducible rfl
                      try simp only [Act.put, List.getElem_toArray, List.getElem_cons_succ, List.getElem_cons_zero, List.setIfInBounds_toArray, List.set_cons_zero, List.set_cons_succ]
                      refine wpAnyH_take (i := 2) (v := ?_) rfl (by kernel_rfl) (by kernel_rfl) (by kernel_rfl) (fun _ _ _ h => h) (Or.inl ⟨by kernel_rfl, ?_⟩) hS ?_
                      rotate_left
                      · intro wz hSz; try dsimp only at hSz
                        simp only [List.getElem_toArray, List.getElem_cons_succ, List.getElem_cons_zero]
                        refine lask_ _ _ _ hSz.2.1 rfl ?_
                        rfl
                      try simp only [Act.put, List.getElem_toArray, List.getElem_cons_succ, List.getElem_cons_zero, List.setIfInBounds_toArray, List.set_cons_zero, List.set_cons_succ]
                      refine wpAnyH_ready (rs := [3]) (by kernel_rfl) (by simp) (AllReadyH.cons rfl (fun K hK => ?_) AllReadyH.nil)
                      go_simp
                      (go_at_call 20; refine (rbody_any _ a _ HF.out EK.out EN.out (HAR.out.grow (grow_ HB.out hS.2.2))).mono ?_; rintro e wq ⟨rfl, hb⟩)
                      refine hK.out _ _ ?_ (fun hSn => ?_)
                      · exact ⟨((bcell hb).1 _ _ hS.2.1.lt).trans hS.1, hS.2.1.below hb hS.2.1.lt, grow_ hS.2.2 hb⟩
                      clear hK K hS
                      have hS := hSn
                      clear hSn
                      try dsimp only at hS
                      try simp only [Act.put, List.getElem_toArray, List.getElem_cons_succ, List.getElem_cons_zero, List.setIfInBounds_toArray, List.set_cons_zero, List.set_cons_succ]
                      refine wpAnyH_take (i := 4) (v := ?_) rfl (by kernel_rfl) (by kernel_rfl) (by kernel_rfl) (fun _ _ _ h => h) (Or.inl ⟨by kernel_rfl, ?_⟩) hS ?_
                      rotate_left
                      · intro wz hSz; try dsimp only at hSz
                        go_simp
                        all_goals with_reducible rfl
                      try simp only [Act.put, List.getElem_toArray, List.getElem_cons_succ, List.getElem_cons_zero, List.setIfInBounds_toArray, List.set_cons_zero, List.set_cons_succ]
                      refine wpAnyH_ready (rs := [5]) (by kernel_rfl) (by simp) (AllReadyH.cons rfl (fun K hK => ?_) AllReadyH.nil)
                      go_simp
                      (go_at_call 27; refine (rr_b a HF.out _ HK2.out _).mono ?_; rintro e wq ⟨rfl, hb⟩)
                      refine hK.out _ _ ?_ (fun hSn => ?_)
                      · exact ⟨((bcell hb).1 _ _ hS.2.1.lt).trans hS.1, hS.2.1.below hb hS.2.1.lt, grow_ hS.2.2 hb⟩
                      clear hK K hS
                      have hS := hSn
                      clear hSn
                      try dsimp only at hS
                      try simp only [Act.put, List.getElem_toArray, List.getElem_cons_succ, List.getElem_cons_zero, List.setIfInBounds_toArray, List.set_cons_zero, List.set_cons_succ]
                      refine wpAnyH_take (i := 6) (v := ?_) rfl (by kernel_rfl) (by kernel_rfl) (by kernel_rfl) (fun _ _ _ h => h) (Or.inl ⟨by kernel_rfl, ?_⟩) hS ?_
                      rotate_left
                      · intro wz hSz; try dsimp only at hSz
                        go_simp
                        all_goals with_reducible rfl
                      try simp only [Act.put, List.getElem_toArray, List.getElem_cons_succ, List.getElem_cons_zero, List.setIfInBounds_toArray, List.set_cons_zero, List.set_cons_succ]
                      refine wpAnyH_done (by kernel_rfl) ?_ _
                      go_wp2
                      go_ret
                      exact ⟨_, rfl, ⟨fun e => ⟨GW.out (fun _ => HW.out), e⟩, fun h => h.2⟩, grow_ HB.out hS.2.2⟩
                    · have f83 : ((a.what.toNat : Int) == 83) = false := u8_ne a.what 83 w83
                      have f80 : ((a.what.toNat : Int) == 80) = false := u8_ne a.what 80 w80
                      have g83 : ((a.what.toNat : Int) != 83) = true := by rw [bne, f83]; rfl
                      have g80 : ((a.what.toNat : Int) != 80) = true := by rw [bne, f80]; rfl
                      clear f83 f80
                      have HW := Lib.hid (show ¬ (a.what = 83 ∨ a.what = 80) from fun h => h.elim w83 w80)
                      clear w83 w80
                      go_wp2
                      go_ret
                      exact rrp_no (fun h => HW.out (h.1.what HN.out)) HB.out
                · have hk2 : (a.kind.toNat : Int) = 67 := by rw [hk]; rfl
                  rw [hk2] at x0
                  have HK2 := Lib.hid hk2
                  clear hk hk2
                  by_cases w83 : a.what = 83
                  · have hw2 : (a.what.toNat : Int) = 83 := by rw [w83]; rfl
                    rw [hw2] at x10
                    have HW := Lib.hid (show a.what = 83 ∨ a.what = 80 from .inl w83)
                    clear w83 hw2
                    go_wp2
                    refine wp_region_held_drew (S := (fun w' => w'.cell? ⟨w.heap.size, 0, none⟩ = some (.int .u8 67) ∧ Blk w' w.heap.size 29 (askV a (.slice A4 a.keys.length c4) (.slice A5 a.vals.length c5) (.slice A6 a.args.length c6) (.slice A7 a.null.length c7) (.slice A8 a.formats.length c8)) ∧ Below w3.heap.size w3 w')) (by kernel_rfl) ?_ (fun hS => ?_)
                    · exact ⟨x0, Q0.out.drew_, bel_drew _⟩
                    try dsimp only at hS
                    refine wpAnyH_take (i := 0) (v := ?_) rfl (by kernel_rfl) (by kernel_rfl) (by kernel_rfl) (fun _ _ _ h => h) (Or.inl ⟨by kernel_rfl, ?_⟩) hS ?_
                    rotate_left
                    · intro wz hSz; try dsimp only at hSz
                      go_simp
                      all_goals with_reducible rfl
                    try simp only [Act.put, List.getElem_toArray, List.getElem_cons_succ, List.getElem_cons_zero, List.setIfInBounds_toArray, List.set_cons_zero, List.set_cons_succ]
                    refine wpAnyH_take (i := 1) (v := ?_) rfl (by kernel_rfl) (by kernel_rfl) (by kernel_rfl) (fun _ _ _ h => h) (Or.inl ⟨by kernel_rfl, ?_⟩) hS ?_
                    rotate_left
                    · intro wz hSz; try dsimp only at hSz
                      go_simp
                      all_goals with_reducible rfl
                    try simp only [Act.put, List.getElem_toArray, List.getElem_cons_succ, List.getElem_cons_zero, List.setIfInBounds_toArray, List.set_cons_zero, List.set_cons_succ]
                    refine wpAnyH_take (i := 2) (v := ?_) rfl (by kernel_rfl) (by kernel_rfl) (by kernel_rfl) (fun _ _ _ h => h) (Or.inl ⟨by kernel_rfl, ?_⟩) hS ?_
                    rotate_left
                    · intro wz hSz; try dsimp only at hSz
                      simp only [List.getElem_toArray, List.getElem_cons_succ, List.getElem_cons_zero]
                      refine lask_ _ _ _ hSz.2.1 rfl ?_
                      rfl
                    try simp only [Act.put, List.getElem_toArray, List.getElem_cons_succ, List.getElem_cons_zero, List.setIfInBounds_toArray, List.set_cons_zero, List.set_cons_succ]
                    refine wpAnyH_ready (rs := [3]) (by kernel_rfl) (by simp) (AllReadyH.cons rfl (fun K hK => ?_) AllReadyH.nil)
                    go_simp
                    (go_at_call 20; refine (rbody_any _ a _ HF.out EK.out EN.out (HAR.out.grow (grow_ HB.out hS.2.2))).mono ?_; rintro e wq ⟨rfl, hb⟩)
                    refine hK.out _ _ ?_ (fun hSn => ?_)
                    · exact ⟨((bcell hb).1 _ _ hS.2.1.lt).trans hS.1, hS.2.1.below hb hS.2.1.lt, grow_ hS.2.2 hb⟩
                    clear hK K hS
                    have hS := hSn
                    clear hSn
                    try dsimp only at hS
                    try simp only [Act.put, List.getElem_toArray, List.getElem_cons_succ, List.getElem_cons_zero, List.setIfInBounds_toArray, List.set_cons_zero, List.set_cons_succ]
                    refine wpAnyH_take (i := 4) (v := ?_) rfl (by kernel_rfl) (by kernel_rfl) (by kernel_rfl) (fun _ _ _ h => h) (Or.inl ⟨by kernel_rfl, ?_⟩) hS ?_
                    rotate_left
                    · intro wz hSz; try dsimp only at hSz
                      go_simp
                      all_goals with_reducible rfl
                    try simp only [Act.put, List.getElem_toArray, List.getElem_cons_succ, List.getElem_cons_zero, List.setIfInBounds_toArray, List.set_cons_zero, List.set_cons_succ]
                    refine wpAnyH_ready (rs := [5]) (by kernel_rfl) (by simp) (AllReadyH.cons rfl (fun K hK => ?_) AllReadyH.nil)
                    go_simp
                    (go_at_call 27; refine (rr_b a HF.out _ HK2.out _).mono ?_; rintro e wq ⟨rfl, hb⟩)
                    refine hK.out _ _ ?_ (fun hSn => ?_)
                    · exact ⟨((bcell hb).1 _ _ hS.2.1.lt).trans hS.1, hS.2.1.below hb hS.2.1.lt, grow_ hS.2.2 hb⟩
                    clear hK K hS
                    have hS := hSn
                    clear hSn
                    try dsimp only at hS
                    try simp only [Act.put, List.getElem_toArray, List.getElem_cons_succ, List.getElem_cons_zero, List.setIfInBounds_toArray, List.set_cons_zero, List.set_cons_succ]
                    refine wpAnyH_take (i := 6) (v := ?_) rfl (by kernel_rfl) (by kernel_rfl) (by kernel_rfl) (fun _ _ _ h => h) (Or.inl ⟨by kernel_rfl, ?_⟩) hS ?_
                    rotate_left
                    · intro wz hSz; try dsimp only at hSz
                      go_simp
                      all_goals with_reducible rfl
                    try simp only [Act.put, List.getElem_toArray, List.getElem_cons_succ, List.getElem_cons_zero, List.setIfInBounds_toArray, List.set_cons_zero, List.set_cons_succ]
                    refine wpAnyH_done (by kernel_rfl) ?_ _
                    go_wp2
                    go_ret
                    exact ⟨_, rfl, ⟨fun e => ⟨GW.out (fun _ => HW.out), e⟩, fun h => h.2⟩, grow_ HB.out hS.2.2⟩
                  · by_cases w80 : a.what = 80
                    · have hw2 : (a.what.toNat : Int) = 80 := by rw [w80]; rfl
                      rw [hw2] at x10
                      have HW := Lib.hid (show a.what = 83 ∨ a.what = 80 from .inr w80)
                      clear w83 w80 hw2
                      go_wp2
                      refine wp_region_held_drew (S := (fun w' => w'.cell? ⟨w.heap.size, 0, none⟩ = some (.int .u8 67) ∧ Blk w' w.heap.size 29 (askV a (.slice A4 a.keys.length c4) (.slice A5 a.vals.length c5) (.slice A6 a.args.length c6) (.slice A7 a.null.length c7) (.slice A8 a.formats.length c8)) ∧ Below w3.heap.size w3 w')) (by kernel_rfl) ?_ (fun hS => ?_)
                      · exact ⟨x0, Q0.out.drew_, bel_drew _⟩
                      try dsimp only at hS
                      refine wpAnyH_take (i := 0) (v := ?_) rfl (by kernel_rfl) (by kernel_rfl) (by kernel_rfl) (fun _ _ _ h => h) (Or.inl ⟨by kernel_rfl, ?_⟩) hS ?_
                      rotate_left
                      · intro wz hSz; try dsimp only at hSz
                        go_simp
                        all_goals with_reducible rfl
                      try simp only [Act.put, List.getElem_toArray, List.getElem_cons_succ, List.getElem_cons_zero, List.setIfInBounds_toArray, List.set_cons_zero, List.set_cons_succ]
                      refine wpAnyH_take (i := 1) (v := ?_) rfl (by kernel_rfl) (by kernel_rfl) (by kernel_rfl) (fun _ _ _ h => h) (Or.inl ⟨by kernel_rfl, ?_⟩) hS ?_
                      rotate_left
                      · intro wz hSz; try dsimp only at hSz
                        go_simp
                        all_goals with_reducible rfl
                      try simp only [Act.put, List.getElem_toArray, List.getElem_cons_succ, List.getElem_cons_zero, List.setIfInBounds_toArray, List.set_cons_zero, List.set_cons_succ]
                      refine wpAnyH_take (i := 2) (v := ?_) rfl (by kernel_rfl) (by kernel_rfl) (by kernel_rfl) (fun _ _ _ h => h) (Or.inl ⟨by kernel_rfl, ?_⟩) hS ?_
                      rotate_left
                      · intro wz hSz; try dsimp only at hSz
                        simp only [List.getElem_toArray, List.getElem_cons_succ, List.getElem_cons_zero]
                        refine lask_ _ _ _ hSz.2.1 rfl ?_
                        rfl
                      try simp only [Act.put, List.getElem_toArray, List.getElem_cons_succ, List.getElem_cons_zero, List.setIfInBounds_toArray, List.set_cons_zero, List.set_cons_succ]
                      refine wpAnyH_ready (rs := [3]) (by kernel_rfl) (by simp) (AllReadyH.cons rfl (fun K hK => ?_) AllReadyH.nil)
                      go_simp
                      (go_at_call 20; refine (rbody_any _ a _ HF.out EK.out EN.out (HAR.out.grow (grow_ HB.out hS.2.2))).mono ?_; rintro e wq ⟨rfl, hb⟩)
                      refine hK.out _ _ ?_ (fun hSn => ?_)
                      · exact ⟨((bcell hb).1 _ _ hS.2.1.lt).trans hS.1, hS.2.1.below hb hS.2.1.lt, grow_ hS.2.2 hb⟩
                      clear hK K hS
                      have hS := hSn
                      clear hSn
                      try dsimp only at hS
                      try simp only [Act.put, List.getElem_toArray, List.getElem_cons_succ, List.getElem_cons_zero, List.setIfInBounds_toArray, List.set_cons_zero, List.set_cons_succ]
                      refine wpAnyH_take (i := 4) (v := ?_) rfl (by kernel_rfl) (by kernel_rfl) (by kernel_rfl) (fun _ _ _ h => h) (Or.inl ⟨by kernel_rfl, ?_⟩) hS ?_
                      rotate_left
                      · intro wz hSz; try dsimp only at hSz
                        go_simp
                        all_goals with_reducible rfl
                      try simp only [Act.put, List.getElem_toArray, List.getElem_cons_succ, List.getElem_cons_zero, List.setIfInBounds_toArray, List.set_cons_zero, List.set_cons_succ]
                      refine wpAnyH_ready (rs := [5]) (by kernel_rfl) (by simp) (AllReadyH.cons rfl (fun K hK => ?_) AllReadyH.nil)
                      go_simp
                      (go_at_call 27; refine (rr_b a HF.out _ HK2.out _).mono ?_; rintro e wq ⟨rfl, hb⟩)
                      refine hK.out _ _ ?_ (fun hSn => ?_)
                      · exact ⟨((bcell hb).1 _ _ hS.2.1.lt).trans hS.1, hS.2.1.below hb hS.2.1.lt, grow_ hS.2.2 hb⟩
                      clear hK K hS
                      have hS := hSn
                      clear hSn
                      try dsimp only at hS
                      try simp only [Act.put, List.getElem_toArray, List.getElem_cons_succ, List.getElem_cons_zero, List.setIfInBounds_toArray, List.set_cons_zero, List.set_cons_succ]
                      refine wpAnyH_take (i := 6) (v := ?_) rfl (by kernel_rfl) (by kernel_rfl) (by kernel_rfl) (fun _ _ _ h => h) (Or.inl ⟨by kernel_rfl, ?_⟩) hS ?_
                      rotate_left
                      · intro wz hSz; try dsimp only at hSz
                        go_simp
                        all_goals with_reducible rfl
                      try simp only [Act.put, List.getElem_toArray, List.getElem_cons_succ, List.getElem_cons_zero, List.setIfInBounds_toArray, List.set_cons_zero, List.set_cons_succ]
                      refine wpAnyH_done (by kernel_rfl) ?_ _
                      go_wp2
                      go_ret
                      exact ⟨_, rfl, ⟨fun e => ⟨GW.out (fun _ => HW.out), e⟩, fun h => h.2⟩, grow_ HB.out hS.2.2⟩
                    · have f83 : ((a.what.toNat : Int) == 83) = false := u8_ne a.what 83 w83
                      have f80 : ((a.what.toNat : Int) == 80) = false := u8_ne a.what 80 w80
                      have g83 : ((a.what.toNat : Int) != 83) = true := by rw [bne, f83]; rfl
                      have g80 : ((a.what.toNat : Int) != 80) = true := by rw [bne, f80]; rfl
                      clear f83 f80
                      have HW := Lib.hid (show ¬ (a.what = 83 ∨ a.what = 80) from fun h => h.elim w83 w80)
                      clear w83 w80
                      go_wp2
                      go_ret
                      exact rrp_no (fun h => HW.out (h.1.what HN.out)) HB.out
              · have f68 : ((a.kind.toNat : Int) == 68) = false := u8_ne a.kind 68 (fun e => hn (by rw [e]; rfl))
                have f67 : ((a.kind.toNat : Int) == 67) = false := u8_ne a.kind 67 (fun e => hn (by rw [e]; rfl))
                have HN := Lib.hid hn
                clear hn
                go_wp2
                refine wp_region_held_drew (S := (fun w' => w'.cell? ⟨w.heap.size, 0, none⟩ = some (.int .u8 (a.kind.toNat : Int)) ∧ Blk w' w.heap.size 29 (askV a (.slice A4 a.keys.length c4) (.slice A5 a.vals.length c5) (.slice A6 a.args.length c6) (.slice A7 a.null.length c7) (.slice A8 a.formats.length c8)) ∧ Below w3.heap.size w3 w')) (by kernel_rfl) ?_ (fun hS => ?_)
                · exact ⟨x0, Q0.out.drew_, bel_drew _⟩
                try dsimp only at hS
                refine wpAnyH_take (i := 0) (v := ?_) rfl (by kernel_rfl) (by kernel_rfl) (by kernel_rfl) (fun _ _ _ h => h) (Or.inl ⟨by kernel_rfl, ?_⟩) hS ?_
                rotate_left
                · intro wz hSz; try dsimp only at hSz
                  go_simp
                  all_goals with_reducible rfl
                try simp only [Act.put, List.getElem_toArray, List.getElem_cons_succ, List.getElem_cons_zero, List.setIfInBounds_toArray, List.set_cons_zero, List.set_cons_succ]
                refine wpAnyH_take (i := 1) (v := ?_) rfl (by kernel_rfl) (by kernel_rfl) (by kernel_rfl) (fun _ _ _ h => h) (Or.inl ⟨by kernel_rfl, ?_⟩) hS ?_
                rotate_left
                · intro wz hSz; try dsimp only at hSz
                  go_simp
                  all_goals with_reducible rfl
                try simp only [Act.put, List.getElem_toArray, List.getElem_cons_succ, List.getElem_cons_zero, List.setIfInBounds_toArray, List.set_cons_zero, List.set_cons_succ]
                refine wpAnyH_take (i := 2) (v := ?_) rfl (by kernel_rfl) (by kernel_rfl) (by kernel_rfl) (fun _ _ _ h => h) (Or.inl ⟨by kernel_rfl, ?_⟩) hS ?_
                rotate_left
                · intro wz hSz; try dsimp only at hSz
                  simp only [List.getElem_toArray, List.getElem_cons_succ, List.getElem_cons_zero]
                  refine lask_ _ _ _ hSz.2.1 rfl ?_
                  rfl
                try simp only [Act.put, List.getElem_toArray, List.getElem_cons_succ, List.getElem_cons_zero, List.setIfInBounds_toArray, List.set_cons_zero, List.set_cons_succ]
                refine wpAnyH_ready (rs := [3]) (by kernel_rfl) (by simp) (AllReadyH.cons rfl (fun K hK => ?_) AllReadyH.nil)
                go_simp
                (go_at_call 20; refine (rbody_any _ a _ HF.out EK.out EN.out (HAR.out.grow (grow_ HB.out hS.2.2))).mono ?_; rintro e wq ⟨rfl, hb⟩)
                refine hK.out _ _ ?_ (fun hSn => ?_)
                · exact ⟨((bcell hb).1 _ _ hS.2.1.lt).trans hS.1, hS.2.1.below hb hS.2.1.lt, grow_ hS.2.2 hb⟩
                clear hK K hS
                have hS := hSn
                clear hSn
                try dsimp only at hS
                try simp only [Act.put, List.getElem_toArray, List.getElem_cons_succ, List.getElem_cons_zero, List.setIfInBounds_toArray, List.set_cons_zero, List.set_cons_succ]
                refine wpAnyH_take (i := 4) (v := ?_) rfl (by kernel_rfl) (by kernel_rfl) (by kernel_rfl) (fun _ _ _ h => h) (Or.inl ⟨by kernel_rfl, ?_⟩) hS ?_
                rotate_left
                · intro wz hSz; try dsimp only at hSz
                  go_simp
                  all_goals with_reducible rfl
                try simp only [Act.put, List.getElem_toArray, List.getElem_cons_succ, List.getElem_cons_zero, List.setIfInBounds_toArray, List.set_cons_zero, List.set_cons_succ]
                refine wpAnyH_ready (rs := [5]) (by kernel_rfl) (by simp) (AllReadyH.cons rfl (fun K hK => ?_) AllReadyH.nil)
                go_simp
                (go_at_call 27; refine (rr_b a HF.out _ rfl _).mono ?_; rintro e wq ⟨rfl, hb⟩)
                refine hK.out _ _ ?_ (fun hSn => ?_)
                · exact ⟨((bcell hb).1 _ _ hS.2.1.lt).trans hS.1, hS.2.1.below hb hS.2.1.lt, grow_ hS.2.2 hb⟩
                clear hK K hS
                have hS := hSn
                clear hSn
                try dsimp only at hS
                try simp only [Act.put, List.getElem_toArray, List.getElem_cons_succ, List.getElem_cons_zero, List.setIfInBounds_toArray, List.set_cons_zero, List.set_cons_succ]
                refine wpAnyH_take (i := 6) (v := ?_) rfl (by kernel_rfl) (by kernel_rfl) (by kernel_rfl) (fun _ _ _ h => h) (Or.inl ⟨by kernel_rfl, ?_⟩) hS ?_
                rotate_left
                · intro wz hSz; try dsimp only at hSz
                  go_simp
                  all_goals with_reducible rfl
                try simp only [Act.put, List.getElem_toArray, List.getElem_cons_succ, List.getElem_cons_zero, List.setIfInBounds_toArray, List.set_cons_zero, List.set_cons_succ]
                refine wpAnyH_done (by kernel_rfl) ?_ _
                go_wp2
                go_ret
                exact ⟨_, rfl, ⟨fun e => ⟨GW.out (fun h => absurd h HN.out), e⟩, fun h => h.2⟩, grow_ HB.out hS.2.2⟩
end Go.Proofs.Ytojgeilihoilnaa
namespace Go.Proofs.Ytojgeilihoilnaa
open Go.ChangeShapes Go.WideShapes Go.ChangeAt Go.RowKit
set_option linter.unusedVariables false
set_option linter.unusedSimpArgs false

theorem rrp_of {a : Ask} {w w' : World} {e : Ending} (hn : ¬ RightP a) (h : e = .returned (.bool false) ∧ Below w.heap.size w w') : RRP a w e w' := by
  obtain ⟨rfl, hB⟩ := h
  exact rrp_no hn hB
theorem bne_f {x y : Nat} (h : x = y) : ((x : Int) != (y : Int)) = false := by rw [h]; simp
theorem bne_t {x y : Nat} (h : x ≠ y) : ((x : Int) != (y : Int)) = true := by
  rw [bne, beq_eq_false_iff_ne.2 (fun e => h (Int.ofNat_inj.1 e))]; rfl
theorem rr_any (w : World) (a : Ask) (v : Value) (f : Few a) (har : AR (fun i => i < w.heap.size) w v a) : Calls Try.prog 16 #[v] w fun e w' => RRP a w e w' := by
  by_cases c0 : Kept a
  rotate_left
  · exact (rr_0 w a v f har (Lib.hid (decide_eq_false c0))).mono fun e w' h => rrp_of (fun h => c0 h.1.kept) h
  by_cases c1 : a.keys.length = a.vals.length
  rotate_left
  · exact (rr_1 w a v f har (Lib.hid (decide_eq_true c0)) (bne_t c1)).mono fun e w' h => rrp_of (fun h => c1 h.1.vals) h
  by_cases c2 : a.null.length = a.args.length
  rotate_left
  · exact (rr_2 w a v f har (Lib.hid (decide_eq_true c0)) (bne_f c1) (bne_t c2)).mono fun e w' h => rrp_of (fun h => c2 h.1.null) h
  by_cases c3 : (100 : Int) < (a.args.length : Int)
  · exact (rr_3 w a v f har (Lib.hid (decide_eq_true c0)) (bne_f c1) (bne_f c2) (decide_eq_true c3)).mono fun e w' h => rrp_of (fun h => by have := h.1.args100; omega) h
  by_cases c4 : (100 : Int) < (a.formats.length : Int)
  · exact (rr_4 w a v f har (Lib.hid (decide_eq_true c0)) (bne_f c1) (bne_f c2) (decide_eq_false c3) (decide_eq_true c4)).mono fun e w' h => rrp_of (fun h => by have := h.1.fmts100; omega) h
  by_cases c5 : (100 : Int) < (a.keys.length : Int)
  · exact (rr_5 w a v f har (Lib.hid (decide_eq_true c0)) (bne_f c1) (bne_f c2) (decide_eq_false c3) (decide_eq_false c4) (decide_eq_true c5)).mono fun e w' h => rrp_of (fun h => by have := h.1.keys100; omega) h
  by_cases c6 : ∀ t ∈ [a.name, a.portal, a.sql], 0 ∉ t
  rotate_left
  · exact (rr_6 w a v f har (Lib.hid (decide_eq_true c0)) (bne_f c1) (bne_f c2) (decide_eq_false c3) (decide_eq_false c4) (decide_eq_false c5) (Lib.hid (decide_eq_false c6))).mono fun e w' h => rrp_of (fun h => c6 (by intro t ht; simp only [List.mem_cons, List.not_mem_nil, or_false] at ht; rcases ht with rfl | rfl | rfl; exact h.1.name0; exact h.1.portal0; exact h.1.sql0)) h
  by_cases c7 : ∀ t ∈ a.keys, 0 ∉ t
  rotate_left
  · exact (rr_7 w a v f har (Lib.hid (decide_eq_true c0)) (bne_f c1) (bne_f c2) (decide_eq_false c3) (decide_eq_false c4) (decide_eq_false c5) (Lib.hid (decide_eq_true c6)) (Lib.hid (decide_eq_false c7))).mono fun e w' h => rrp_of (fun h => c7 h.1.keys0) h
  by_cases c8 : ∀ t ∈ a.vals, 0 ∉ t
  rotate_left
  · exact (rr_8 w a v f har (Lib.hid (decide_eq_true c0)) (bne_f c1) (bne_f c2) (decide_eq_false c3) (decide_eq_false c4) (decide_eq_false c5) (Lib.hid (decide_eq_true c6)) (Lib.hid (decide_eq_true c7)) (Lib.hid (decide_eq_false c8))).mono fun e w' h => rrp_of (fun h => c8 h.1.vals0) h
  by_cases c9 : four a.pid
  rotate_left
  · exact (rr_9 w a v f har (Lib.hid (decide_eq_true c0)) (bne_f c1) (bne_f c2) (decide_eq_false c3) (decide_eq_false c4) (decide_eq_false c5) (Lib.hid (decide_eq_true c6)) (Lib.hid (decide_eq_true c7)) (Lib.hid (decide_eq_true c8)) (Lib.hid (decide_eq_false c9))).mono fun e w' h => rrp_of (fun h => c9 h.1.pid4) h
  by_cases c10 : four a.secret
  rotate_left
  · exact (rr_10 w a v f har (Lib.hid (decide_eq_true c0)) (bne_f c1) (bne_f c2) (decide_eq_false c3) (decide_eq_false c4) (decide_eq_false c5) (Lib.hid (decide_eq_true c6)) (Lib.hid (decide_eq_true c7)) (Lib.hid (decide_eq_true c8)) (Lib.hid (decide_eq_true c9)) (Lib.hid (decide_eq_false c10))).mono fun e w' h => rrp_of (fun h => c10 h.1.secret4) h
  by_cases c11 : a.most < (0 : Int)
  · exact (rr_11 w a v f har (Lib.hid (decide_eq_true c0)) (bne_f c1) (bne_f c2) (decide_eq_false c3) (decide_eq_false c4) (decide_eq_false c5) (Lib.hid (decide_eq_true c6)) (Lib.hid (decide_eq_true c7)) (Lib.hid (decide_eq_true c8)) (Lib.hid (decide_eq_true c9)) (Lib.hid (decide_eq_true c10)) (decide_eq_true c11)).mono fun e w' h => rrp_of (fun h => by have := h.1.most0; omega) h
  by_cases c12 : four a.most
  rotate_left
  · exact (rr_12 w a v f har (Lib.hid (decide_eq_true c0)) (bne_f c1) (bne_f c2) (decide_eq_false c3) (decide_eq_false c4) (decide_eq_false c5) (Lib.hid (decide_eq_true c6)) (Lib.hid (decide_eq_true c7)) (Lib.hid (decide_eq_true c8)) (Lib.hid (decide_eq_true c9)) (Lib.hid (decide_eq_true c10)) (decide_eq_false c11) (Lib.hid (decide_eq_false c12))).mono fun e w' h => rrp_of (fun h => c12 h.1.most4) h
  exact rr_main w a v f har (Lib.hid (decide_eq_true c0)) (bne_f c1) (bne_f c2) (decide_eq_false c3) (decide_eq_false c4) (decide_eq_false c5) (Lib.hid (decide_eq_true c6)) (Lib.hid (decide_eq_true c7)) (Lib.hid (decide_eq_true c8)) (Lib.hid (decide_eq_true c9)) (Lib.hid (decide_eq_true c10)) (decide_eq_false c11) (Lib.hid (decide_eq_true c12))
theorem rr_yes (w : World) (a : Ask) (v : Value) (f : Few a) (har : AR (fun i => i < w.heap.size) w v a) (h : RightP a) : Calls Try.prog 16 #[v] w fun e w' => e = .returned (.bool true) ∧ Below w.heap.size w w' :=
  (rr_any w a v f har).mono fun e w' ⟨b, h1, h2, h3⟩ => ⟨by rw [h1, h2.2 h], h3⟩
theorem rr_not (w : World) (a : Ask) (v : Value) (f : Few a) (har : AR (fun i => i < w.heap.size) w v a) (h : ¬ RightP a) : Calls Try.prog 16 #[v] w fun e w' => e = .returned (.bool false) ∧ Below w.heap.size w w' :=
  (rr_any w a v f har).mono fun e w' ⟨b, h1, h2, h3⟩ => ⟨by cases b; exact h1; exact absurd (h2.1 rfl) h, h3⟩
theorem renc_out (g : Nat) (wf : World) (tmps : Array Value) (c : Int) (cs : Array Value) (h2 : tmps.getD 2 undef = .pointer (some ⟨g, 0, none⟩)) (h3 : tmps.getD 3 undef = .int .i64 c) (hb : Blk wf g 23 cs) (hz : cs.size = 2) :
    (results Try.f14 tmps).run Try.prog wf = .ok (.tuple #[.agg cs, .int .i64 c]) wf := by
  obtain ⟨fs, hu⟩ := msgTy
  have hl := run_loadVar_row (P := Try.prog) wf g 23 23 cs (0, 0) (.struct fs) hb hu rfl (by rw [msgInfo, hz])
  have h2' : tmps[2]?.getD undef = .pointer (some ⟨g, 0, none⟩) := by simpa using h2
  have h3' : tmps[3]?.getD undef = .int .i64 c := by simpa using h3
  simp [results, Try.f14, Try.results14, h2', h3', asAddr, hl]
set_option maxHeartbeats 2000000 in
set_option maxRecDepth 100000 in
theorem renc_no (a : Ask) (v : Value) (w : World) (f : Few a) (har : AR (fun i => i < w.heap.size) w v a) (h : ¬ RightP a) :
    Calls Try.prog 14 #[v] w fun e w' => e = .returned (.tuple #[.agg #[.int .u8 0, .string ⟨#[]⟩], .int .i64 4]) ∧ Below w.heap.size w w' := by
  obtain ⟨kv, vv, av, nv, fv, rfl, _⟩ := har.ex
  have hb0 := bel_alloc w (.cells (askV a kv vv av nv fv) 29)
  have hb1 := bel_alloc (w.alloc (.cells (askV a kv vv av nv fv) 29)) (.cells #[.int .u8 0, .string ⟨#[]⟩] 23)
  have q0 := (Blk.new w 29 (askV a kv vv av nv fv)).alloc (.cells #[.int .u8 0, .string ⟨#[]⟩] 23)
  have b2 := Blk.new (w.alloc (.cells (askV a kv vv av nv fv) 29)) 23 #[.int .u8 0, .string ⟨#[]⟩]
  rw [show (w.alloc (.cells (askV a kv vv av nv fv) 29)).heap.size = w.heap.size + 1 by simp] at b2
  have hB := grow_ hb0 hb1
  have bxa := (bx_new w a _ har).below hb1
  have hra := har.grow hB
  have hrw := har
  clear hb0 hb1 har
  go_enter Try.func14, Try.ntmps14
  go_upto_region 1 with fail
  refine wp_region_lit ?_
  change wpList _ _ _ _ _ ((w.alloc (.cells (askV a kv vv av nv fv) 29)).alloc (.cells #[.int .u8 0, .string ⟨#[]⟩] 23))
  generalize (w.alloc (.cells (askV a kv vv av nv fv) 29)).alloc (.cells #[.int .u8 0, .string ⟨#[]⟩] 23) = W at *
  go_wp2_with (first
    | ((with_reducible refine load_box (op := ⟨some 4, .load 29 (.tmp 1), _, _, _, _⟩) 1 _ _ ?_ rfl ?_ bxa ?_); (· rfl); (· rfl); (intro kv4 vv4 av4 nv4 fv4 har4))
    | (go_at_call 16; refine (rr_not _ a _ f har4 h).mono ?_; rintro e w1 ⟨rfl, hbz⟩; replace q0 := q0.below hbz q0.lt; replace b2 := b2.below hbz b2.lt; replace hra := hra.grow hbz; replace hB := grow_ hB hbz; clear hbz har4 bxa; have y0 : w1.cell? ⟨w.heap.size + 1, 0, none⟩ = some (.int .u8 0) := b2.cell 0; have y1 : w1.cell? ⟨w.heap.size + 1, 1, none⟩ = some (.string ⟨#[]⟩) := b2.cell 1; have f0 := b2.frozen 0; have f1 := b2.frozen 1))
  have hb2 := (b2.set_ 0 (.int .u8 0)).set_ 1 (.string ⟨#[]⟩)
  exact bodyPost_ret (v := .tuple #[.agg #[.int .u8 0, .string ⟨#[]⟩], .int .i64 4]) (renc_out _ _ _ _ _ (by rfl) (by rfl) hb2 rfl) rfl ⟨rfl, (hB.setCell (p := ⟨w.heap.size + 1, 0, none⟩) (by simp) _).setCell (p := ⟨w.heap.size + 1, 1, none⟩) (by simp) _⟩
set_option maxHeartbeats 2000000 in
set_option maxRecDepth 100000 in
theorem renc_yes (a : Ask) (v : Value) (w : World) (f : Few a) (har : AR (fun i => i < w.heap.size) w v a) (h : RightP a) :
    Calls Try.prog 14 #[v] w fun e w' => e = .returned (.tuple #[.agg #[.int .u8 (a.kind.toNat : Int), .string (ba (body a))], .int .i64 0]) ∧ Below w.heap.size w w' := by
  obtain ⟨kv, vv, av, nv, fv, rfl, _⟩ := har.ex
  have hb0 := bel_alloc w (.cells (askV a kv vv av nv fv) 29)
  have hb1 := bel_alloc (w.alloc (.cells (askV a kv vv av nv fv) 29)) (.cells #[.int .u8 0, .string ⟨#[]⟩] 23)
  have q0 := (Blk.new w 29 (askV a kv vv av nv fv)).alloc (.cells #[.int .u8 0, .string ⟨#[]⟩] 23)
  have b2 := Blk.new (w.alloc (.cells (askV a kv vv av nv fv) 29)) 23 #[.int .u8 0, .string ⟨#[]⟩]
  rw [show (w.alloc (.cells (askV a kv vv av nv fv) 29)).heap.size = w.heap.size + 1 by simp] at b2
  have hB := grow_ hb0 hb1
  have bxa := (bx_new w a _ har).below hb1
  have hra := har.grow hB
  have hrw := har
  clear hb0 hb1 har
  go_enter Try.func14, Try.ntmps14
  go_upto_region 1 with fail
  refine wp_region_lit ?_
  change wpList _ _ _ _ _ ((w.alloc (.cells (askV a kv vv av nv fv) 29)).alloc (.cells #[.int .u8 0, .string ⟨#[]⟩] 23))
  generalize (w.alloc (.cells (askV a kv vv av nv fv) 29)).alloc (.cells #[.int .u8 0, .string ⟨#[]⟩] 23) = W at *
  go_wp2_with (first
    | ((with_reducible refine load_box (op := ⟨some 4, .load 29 (.tmp 1), _, _, _, _⟩) 1 _ _ ?_ rfl ?_ bxa ?_); (· rfl); (· rfl); (intro kv4 vv4 av4 nv4 fv4 har4))
    | (go_at_call 16; refine (rr_yes _ a _ f har4 h).mono ?_; rintro e w1 ⟨rfl, hbz⟩; replace q0 := q0.below hbz q0.lt; replace b2 := b2.below hbz b2.lt; replace hra := hra.grow hbz; replace hB := grow_ hB hbz; clear hbz har4 bxa; have y0 : w1.cell? ⟨w.heap.size + 1, 0, none⟩ = some (.int .u8 0) := b2.cell 0; have y1 : w1.cell? ⟨w.heap.size + 1, 1, none⟩ = some (.string ⟨#[]⟩) := b2.cell 1; have f0 := b2.frozen 0; have f1 := b2.frozen 1))
  have x0 : w1.cell? ⟨w.heap.size, 0, none⟩ = some (.int .u8 (a.kind.toNat : Int)) := q0.cell 0
  refine wp_region_held_drew (S := (fun w' => w'.cell? ⟨w.heap.size, 0, none⟩ = some (.int .u8 (a.kind.toNat : Int)) ∧ Blk w' w.heap.size 29 (askV a kv vv av nv fv) ∧ (∃ x y, Blk w' (w.heap.size + 1) 23 #[x, y]) ∧ Below w.heap.size w w' ∧ AR (fun i => i < w.heap.size) w' (.agg (askV a kv vv av nv fv)) a)) (by kernel_rfl) ?_ (fun hS => ?_)
  · exact ⟨x0, q0.drew_, ⟨_, _, b2.drew_⟩, grow_ hB (bel_drew _), hrw.step (fun i hi => (hB.drew).block i hi) (fun _ h => h)⟩
  try dsimp only at hS
  refine wpAnyH_take (i := 0) (v := ?_) rfl (by kernel_rfl) (by kernel_rfl) (by kernel_rfl) (fun _ _ _ h => h) (Or.inl ⟨by kernel_rfl, ?_⟩) hS ?_
  rotate_left
  · intro wz hSz; try dsimp only at hSz
    go_simp
    all_goals with_reducible rfl
  try simp only [Act.put, List.getElem_toArray, List.getElem_cons_succ, List.getElem_cons_zero, List.setIfInBounds_toArray, List.set_cons_zero, List.set_cons_succ]
  refine wpAnyH_take (i := 1) (v := ?_) rfl (by kernel_rfl) (by kernel_rfl) (by kernel_rfl) (fun _ _ _ h => h) (Or.inl ⟨by kernel_rfl, ?_⟩) hS ?_
  rotate_left
  · intro wz hSz; try dsimp only at hSz
    go_simp
    all_goals with_reducible rfl
  try simp only [Act.put, List.getElem_toArray, List.getElem_cons_succ, List.getElem_cons_zero, List.setIfInBounds_toArray, List.set_cons_zero, List.set_cons_succ]
  refine wpAnyH_take (i := 2) (v := ?_) rfl (by kernel_rfl) (by kernel_rfl) (by kernel_rfl) (fun _ _ _ h => h) (Or.inl ⟨by kernel_rfl, ?_⟩) hS ?_
  rotate_left
  · intro wz hSz; try dsimp only at hSz
    simp only [List.getElem_toArray, List.getElem_cons_succ, List.getElem_cons_zero]
    refine lask_ _ _ _ hSz.2.1 rfl ?_
    rfl
  try simp only [Act.put, List.getElem_toArray, List.getElem_cons_succ, List.getElem_cons_zero, List.setIfInBounds_toArray, List.set_cons_zero, List.set_cons_succ]
  refine wpAnyH_ready (rs := [3]) (by kernel_rfl) (by simp) (AllReadyH.cons rfl (fun K hK => ?_) AllReadyH.nil)
  go_simp
  (go_at_call 20; refine (rbody_any _ a _ f h.1.vals h.1.null (hS.2.2.2.2.step (fun _ _ => rfl) (fun i hi => Nat.lt_of_lt_of_le hi hS.2.2.2.1.size))).mono ?_; rintro e wq ⟨rfl, hb⟩)
  refine hK.out _ _ ?_ (fun hSn => ?_)
  · exact ⟨((bcell hb).1 _ _ hS.2.1.lt).trans hS.1, hS.2.1.below hb hS.2.1.lt, (by obtain ⟨x, y, hxy⟩ := hS.2.2.1; exact ⟨x, y, hxy.below hb hxy.lt⟩), grow_ hS.2.2.2.1 hb, hS.2.2.2.2.step (fun i hi => hb.block i (Nat.lt_of_lt_of_le hi hS.2.2.2.1.size)) (fun _ h => h)⟩
  clear hK K hS
  have hS := hSn
  clear hSn
  try dsimp only at hS
  try simp only [Act.put, List.getElem_toArray, List.getElem_cons_succ, List.getElem_cons_zero, List.setIfInBounds_toArray, List.set_cons_zero, List.set_cons_succ]
  refine wpAnyH_take (i := 4) (v := ?_) rfl (by kernel_rfl) (by kernel_rfl) (by kernel_rfl) (fun _ _ _ h => h) (Or.inl ⟨by kernel_rfl, ?_⟩) hS ?_
  rotate_left
  · intro wz hSz; try dsimp only at hSz
    go_simp
    all_goals with_reducible rfl
  try simp only [Act.put, List.getElem_toArray, List.getElem_cons_succ, List.getElem_cons_zero, List.setIfInBounds_toArray, List.set_cons_zero, List.set_cons_succ]
  refine wpAnyH_ready (rs := [5]) (by kernel_rfl) (by simp) (AllReadyH.cons rfl (fun K hK => ?_) AllReadyH.nil)
  obtain ⟨x, y, b3⟩ := hS.2.2.1
  have z0 : wq.cell? ⟨w.heap.size + 1, 0, none⟩ = some x := b3.cell 0
  have z1 : wq.cell? ⟨w.heap.size + 1, 1, none⟩ = some y := b3.cell 1
  have g0 := b3.frozen 0
  have g1 := b3.frozen 1
  have b4 := (b3.set_ 0 (.int .u8 (a.kind.toNat : Int))).set_ 1 (.string (ba (body a)))
  have hk4 : Keeps [w.heap.size + 1] wq ((wq.setCell ⟨w.heap.size + 1, 0, none⟩ (.int .u8 (a.kind.toNat : Int))).setCell ⟨w.heap.size + 1, 1, none⟩ (.string (ba (body a)))) := ((Keeps.refl _ _).set _ _ _ (.inl (by simp))).set _ _ _ (.inl (by simp))
  have q4 := hS.2.1.keeps hk4 (by simp)
  have hB4 : Below w.heap.size w ((wq.setCell ⟨w.heap.size + 1, 0, none⟩ (.int .u8 (a.kind.toNat : Int))).setCell ⟨w.heap.size + 1, 1, none⟩ (.string (ba (body a)))) := hS.2.2.2.1.trans (hk4.below (fun i hi => by rw [List.mem_singleton.1 hi]; omega) hS.2.2.2.1.size)
  have a4 : AR (fun i => i < w.heap.size) ((wq.setCell ⟨w.heap.size + 1, 0, none⟩ (.int .u8 (a.kind.toNat : Int))).setCell ⟨w.heap.size + 1, 1, none⟩ (.string (ba (body a)))) (.agg (askV a kv vv av nv fv)) a := hS.2.2.2.2.step (fun i hi => hk4.block i (Nat.lt_of_lt_of_le hi hS.2.2.2.1.size) (by simp; omega)) (fun _ h => h)
  have B4 := Lib.hid b4
  have HB4 := Lib.hid hB4
  have Q4 := Lib.hid q4
  have A4 := Lib.hid a4
  clear b4 hB4 q4 a4 hk4
  go_simp
  refine hK.out _ _ ?_ (fun hSn => ?_)
  · exact ⟨Q4.out.cell 0, Q4.out, ⟨_, _, B4.out⟩, HB4.out, A4.out⟩
  clear hK K
  try simp only [Act.put, List.getElem_toArray, List.getElem_cons_succ, List.getElem_cons_zero, List.setIfInBounds_toArray, List.set_cons_zero, List.set_cons_succ]
  refine wpAnyH_take (i := 6) (v := ?_) rfl (by kernel_rfl) (by kernel_rfl) (by kernel_rfl) (fun _ _ _ h => h) (Or.inl ⟨by kernel_rfl, ?_⟩) hSn ?_
  rotate_left
  · intro wz hSz; try dsimp only at hSz
    go_simp
    all_goals with_reducible rfl
  try simp only [Act.put, List.getElem_toArray, List.getElem_cons_succ, List.getElem_cons_zero, List.setIfInBounds_toArray, List.set_cons_zero, List.set_cons_succ]
  refine wpAnyH_done (by kernel_rfl) ?_ _
  go_wp2
  exact bodyPost_ret (v := .tuple #[.agg #[.int .u8 (a.kind.toNat : Int), .string (ba (body a))], .int .i64 0]) (renc_out _ _ _ _ _ (by rfl) (by rfl) B4.out rfl) rfl ⟨rfl, HB4.out⟩
end Go.Proofs.Ytojgeilihoilnaa
