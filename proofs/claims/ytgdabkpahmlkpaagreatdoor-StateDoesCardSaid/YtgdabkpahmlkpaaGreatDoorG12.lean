/- Sek Sel Sem Sen Ted Tee Tef Teg Teh -/
import Derived.Test.YtgdabkpahmlkpaaGreatDoorG11
import Derived.Maps.OwnSet
import Derived.Maps.AppendAt
import Derived.StringKeys
import Derived.Sort.OwnSorted
import Derived.Deep.LoopGhost
import Derived.Test.YtgdabkpahmlkpaaGreatDoorG10
import Derived.Test.YtgdabkpahmlkpaaGreatDoorG9
import Derived.Deep.RegionWith
import Derived.Deep.RegionHeld
set_option linter.unusedSimpArgs false
set_option linter.unusedVariables false
namespace Go.Proofs.YtgdabkpahmlkpaaGreatDoor
open Go.ChangeShapes Go.WideShapes Go.ChangeAt Go.RowKit
set_option maxRecDepth 100000
set_option linter.unusedVariables false
set_option linter.unusedSimpArgs false

theorem word1 (v : Value) (l : List Tok) (i : Nat) (s : ByteArray) (x : Tx) (w : World) (h : TR w v l) (hl : l.length ≤ 1099511627776) (hs : s.toList = x) (W : World) (b : Nat) (hW : Below w.heap.size w W) (hb : W.heap.size = b) :
  Calls Tryz.prog 254 #[v,.int .i64 (i : Int),.slice (some ⟨b,0,none⟩) 1 1] (W.alloc (.cells #[.string s] 9)) fun e w' => e = .returned (.bool (isTok 1 [x] l i)) ∧ w' = W.alloc (.cells #[.string s] 9) := by
 subst hb hs; exact isWord1 v l i s W (h.below hW) hl
theorem word2 (v : Value) (l : List Tok) (i : Nat) (s t : ByteArray) (x y : Tx) (w : World) (h : TR w v l) (hl : l.length ≤ 1099511627776) (hs : s.toList = x) (ht : t.toList = y) (W : World) (b : Nat) (hW : Below w.heap.size w W) (hb : W.heap.size = b) :
  Calls Tryz.prog 254 #[v,.int .i64 (i : Int),.slice (some ⟨b,0,none⟩) 2 2] (W.alloc (.cells #[.string s,.string t] 9)) fun e w' => e = .returned (.bool (isTok 1 [x,y] l i)) ∧ w' = W.alloc (.cells #[.string s,.string t] 9) := by
 subst hb hs ht; exact isWord2 v l i s t W (h.below hW) hl
set_option maxHeartbeats 2000000 in
theorem readsAll_any (v : Value) (l : List Tok) (i : Nat) (w : World) (h : TR w v l) (hl : l.length ≤ 1000000) (hi : i ≤ 1000000) :
  Calls Tryz.prog 229 #[v,.int .i64 (i : Int)] w fun e w' => e = .returned (.bool (readsB l i)) ∧ Below w.heap.size w w' := by
 obtain ⟨R,hR⟩ : ∃ R,readsB l i = R := ⟨_,rfl⟩
 rw [hR]
 have h1 := word2 v l i ⟨#[106,111,105,110]⟩ ⟨#[117,115,105,110,103]⟩ w_join w_using w h (by omega) (by rw [Lib.toList_data]; rfl) (by rw [Lib.toList_data]; rfl)
 have h2 := word1 v l i ⟨#[102,114,111,109]⟩ w_from w h (by omega) (by rw [Lib.toList_data]; rfl)
 have h3 := word1 v l (i - 1) ⟨#[100,101,108,101,116,101]⟩ w_delete w h (by omega) (by rw [Lib.toList_data]; rfl)
 have h4 := word1 v l i ⟨#[116,97,98,108,101]⟩ w_table w h (by omega) (by rw [Lib.toList_data]; rfl)
 have hn := fun ws W => isWord_neg v ws W
 unfold readsB at hR
 generalize isTok 1 [w_join,w_using] l i = b1 at *
 generalize isTok 1 [w_from] l i = b2 at *
 generalize isTok 1 [w_delete] l (i - 1) = b3 at *
 generalize isTok 1 [w_table] l i = b4 at *
 have B1 : Below w.heap.size w (w.alloc (.cells #[.string ⟨#[106,111,105,110]⟩,.string ⟨#[117,115,105,110,103]⟩] 9)) := below_new _ _
 have B2 : Below w.heap.size w ((w.alloc (.cells #[.string ⟨#[106,111,105,110]⟩,.string ⟨#[117,115,105,110,103]⟩] 9)).alloc (.cells #[.string ⟨#[102,114,111,109]⟩] 9)) := B1.alloc (by simp) _
 have B3 : Below w.heap.size w (((w.alloc (.cells #[.string ⟨#[106,111,105,110]⟩,.string ⟨#[117,115,105,110,103]⟩] 9)).alloc (.cells #[.string ⟨#[102,114,111,109]⟩] 9)).alloc (.cells #[.string ⟨#[100,101,108,101,116,101]⟩] 9)) := B2.alloc (by simp; omega) _
 have B4 : Below w.heap.size w (((w.alloc (.cells #[.string ⟨#[106,111,105,110]⟩,.string ⟨#[117,115,105,110,103]⟩] 9)).alloc (.cells #[.string ⟨#[102,114,111,109]⟩] 9)).alloc (.cells #[.string ⟨#[116,97,98,108,101]⟩] 9)) := B2.alloc (by simp; omega) _
 have K1 := Lib.hid (h1 w w.heap.size (Below.refl _ _) rfl)
 have K2 := Lib.hid (h2 _ (w.heap.size + 1) B1 (by simp))
 have K3 := Lib.hid (h3 _ (w.heap.size + 2) B2 (by simp))
 have K4 := Lib.hid (h4 _ (w.heap.size + 2) B2 (by simp))
 have HN := Lib.hid hn
 have HB1 := Lib.hid B1
 have HB2 := Lib.hid B2
 have HB3 := Lib.hid B3
 have HB4 := Lib.hid B4
 clear h1 h2 h3 h4 hn h B1 B2 B3 B4
 cases i with
 | zero =>
  have wm : IntKind.i64.wrap ((0 : Int) - 1) = -1 := by decide
  simp only [Int.natCast_zero] at K1 K2 K4 ⊢
  cases b1 <;> cases b2 <;> cases b4 <;>
  ·simp at hR
   subst hR
   clear K3
   go_enter Tryz.func229,Tryz.ntmps229
   go_wp2_with (first
    | (go_at_call 254; (with_reducible refine K1.out.mono ?_); rintro e w2 ⟨rfl,rfl⟩)
    | (go_at_call 254; (with_reducible refine K2.out.mono ?_); rintro e w2 ⟨rfl,rfl⟩)
    | (go_at_call 254; (with_reducible refine K4.out.mono ?_); rintro e w2 ⟨rfl,rfl⟩)
    | (go_at_call 254; (with_reducible refine (HN.out _ _).mono ?_); rintro e w2 ⟨rfl,rfl⟩))
   go_ret
   exact ⟨rfl,by first | exact HB1.out | exact HB2.out | exact HB3.out | exact HB4.out⟩
 | succ k =>
  have wm : IntKind.i64.wrap (((k + 1 : Nat) : Int) - 1) = (k : Int) := by rw [show ((k + 1 : Nat) : Int) - 1 = (k : Int) by omega]; exact wrap_nat (by omega)
  have ne : (((k + 1 : Nat) : Int) == 0) = false := by rw [beq_eq_false_iff_ne]; omega
  rw [Nat.add_sub_cancel] at K3
  obtain ⟨i1,hi1⟩ : ∃ i1,k + 1 = i1 := ⟨_,rfl⟩
  simp only [hi1] at wm ne K1 K2 K3 K4 ⊢
  have hz : (i1 == 0) = false := by rw [beq_eq_false_iff_ne]; omega
  have hz2 : (i1 != 0) = true := by rw [bne_iff_ne]; omega
  rw [hi1] at hR
  rw [hz,hz2] at hR
  clear hi1 hz hz2 hi
  cases b1 <;> cases b2 <;> cases b3 <;>
  ·simp only [Bool.false_and,Bool.true_and,Bool.or_false,Bool.false_or,Bool.not_false,Bool.not_true,Bool.true_or,Bool.or_true,Bool.and_false] at hR
   subst hR
   clear K4
   go_enter Tryz.func229,Tryz.ntmps229
   go_wp2_with (first
    | (go_at_call 254; (with_reducible refine K1.out.mono ?_); rintro e w2 ⟨rfl,rfl⟩)
    | (go_at_call 254; (with_reducible refine K2.out.mono ?_); rintro e w2 ⟨rfl,rfl⟩)
    | (go_at_call 254; (with_reducible refine K3.out.mono ?_); rintro e w2 ⟨rfl,rfl⟩))
   go_ret
   exact ⟨rfl,by first | exact HB1.out | exact HB2.out | exact HB3.out | exact HB4.out⟩
end Go.Proofs.YtgdabkpahmlkpaaGreatDoor
namespace Go.Proofs.YtgdabkpahmlkpaaGreatDoor
open Go.ChangeShapes Go.WideShapes Go.ChangeAt Go.RowKit Go.Maps
set_option maxRecDepth 100000
set_option linter.unusedVariables false
set_option linter.unusedSimpArgs false

theorem ownsRow_base {w : World} {B B2 n z : Nat} {e : TypeId} {v : Value} {xs : List Value} (h : w.ownsRow B e z v n xs) (hB : B2 ≤ B) : w.ownsRow B2 e z v n xs := by
 refine ⟨h.1,?_⟩
 rcases h.2 with hn | ⟨g,cap,cur,e1,hb,r⟩
 ·exact .inl hn
 ·exact .inr ⟨g,cap,cur,e1,Nat.le_trans hB hb,r⟩
def MapI (W : World) (M n : Nat) (p : Tx → Bool) : Prop := ∃ D : DataW Unit,W.ownsMap Tryz.prog 9 (unitElem (H := Unit)) M n D ∧ ∀ x,Maps.has D (Lit.string x) = p x
theorem lawS : Keyed Tryz.prog 9 := string_keyed Tryz.underlying9
theorem undM : Tryz.prog.underlying 289 = some (.map 9 169) := by kernel_rfl
theorem zeroU (w : World) : (zeroValue 169).run Tryz.prog w = .ok (.agg #[]) w := by kernel_rfl
theorem keyS (x : Tx) (h : x.length ≤ 2000000001) : keyOf Tryz.prog 9 (sV x) = some (Lit.string x) := by
 have := Go.WideMaps.keyOf_string_mk (P := Tryz.prog) Tryz.underlying9 (s := ⟨x.toArray⟩) (by show x.toArray.size ≤ maxLen; unfold maxLen; simp; omega)
 exact this
theorem MapI.made (w : World) : MapI (w.alloc (.map #[] 0)) w.heap.size 0 (fun _ => false) := ⟨.map [],World.ownsMap_made _ _ _ _,fun _ => rfl⟩
theorem map_block {W : World} {M n : Nat} {D : DataW Unit} (h : W.ownsMap Tryz.prog 9 (unitElem (H := Unit)) M n D) : ∃ es c,W.heap[M]? = some (.map es c) := by
 obtain ⟨es,c,h1,_⟩ := h
 exact ⟨es,c,h1⟩
theorem own_nomap {W : World} {M n b m : Nat} {D : DataW Unit} {v : Value} {xs : List Value} {e : TypeId} {z : Nat} (h : W.ownsMap Tryz.prog 9 (unitElem (H := Unit)) M n D) (h2 : W.ownsRow b e z v m xs) : v.ownBlock ≠ some M := by
 intro e
 obtain ⟨_,c,fz,h3⟩ := own_kind h2 M e
 obtain ⟨es,c,h4⟩ := map_block h
 rw [h3] at h4
 injection h4 with h4
 cases h4
theorem has_put {D : DataW Unit} (hD : IsMap D) (x y : Tx) (u : DataW Unit) : Maps.has (D.put (Lit.string x) u) (Lit.string y) = (y == x || Maps.has D (Lit.string y)) := by
 by_cases h : y = x
 ·subst h; rw [has_put_same hD (k := Lit.string y) (by exact trivial)]; simp
 ·rw [has_put_other (by intro e; cases e; exact h rfl)]
  have : (y == x) = false := by rw [beq_eq_false_iff_ne]; exact h
  rw [this,Bool.false_or]
theorem has_del {D : DataW Unit} (x y : Tx) : Maps.has (D.del (Lit.string x)) (Lit.string y) = (y != x && Maps.has D (Lit.string y)) := by
 by_cases h : y = x
 ·subst h; rw [has_del_same]; simp
 ·rw [has_del_other (by intro e; cases e; exact h rfl)]
  have : (y != x) = true := by rw [bne_iff_ne]; exact h
  rw [this,Bool.true_and]
structure Told (ss T : List Tx) (k : Nat) : Prop where
 rises : Rises T
 mem : ∀ s,s ∈ T ↔ s ∈ ss.take k
theorem Told.start (ss : List Tx) : Told ss [] 0 := ⟨List.Pairwise.nil,fun s => by simp⟩
theorem take_mem {ss : List Tx} {k : Nat} (hk : k < ss.length) (s : Tx) : s ∈ ss.take (k + 1) ↔ s ∈ ss.take k ∨ s = ss[k] := by
 rw [List.take_succ_eq_append_getElem hk,List.mem_append,List.mem_singleton]
theorem Told.old {ss T : List Tx} {k : Nat} (h : Told ss T k) (hk : k < ss.length) (hm : ss[k] ∈ ss.take k) : Told ss T (k + 1) :=
 ⟨h.rises,fun s => by
  rw [h.mem,take_mem hk]
  constructor
  ·exact .inl
  ·rintro (e | e)
   ·exact e
   ·rw [e]; exact hm⟩
theorem Told.new {ss T : List Tx} {k : Nat} (h : Told ss T k) (hs : ss.Pairwise (fun a b => a ≤ b)) (hk : k < ss.length) (hm : ss[k] ∉ ss.take k) : Told ss (T ++ [ss[k]]) (k + 1) := by
 refine ⟨List.pairwise_append.2 ⟨h.rises,List.pairwise_singleton ..,fun a ha b hb => ?_⟩,fun s => by rw [take_mem hk,List.mem_append,List.mem_singleton,h.mem]⟩
 rw [List.mem_singleton.1 hb]
 have ha2 := (h.mem a).1 ha
 have hne : a ≠ ss[k] := fun e => hm (by rw [← e]; exact ha2)
 obtain ⟨i,hi,e⟩ := List.mem_iff_getElem.1 ha2
 have hik : i < k := by rw [List.length_take] at hi; omega
 rw [List.getElem_take] at e
 have hle : ss[i] ≤ ss[k] := (List.pairwise_iff_getElem.1 hs) i k (by omega) hk hik
 rw [e] at hle
 rcases tx_tri a ss[k] with c | c | c
 ·exact c
 ·exact absurd c hne
 ·exact absurd c (List.not_lt.2 hle)
theorem Told.done {ss T d : List Tx} (h : Told ss T ss.length) (hp : ss.Perm d) : T = riseL d :=
 rise_is h.rises fun s => by rw [h.mem,List.take_length]; exact hp.mem_iff
theorem sorted_is (d : List Tx) : (d.mergeSort fun x y => decide (x ≤ y)).Pairwise (fun a b => a ≤ b) ∧ (d.mergeSort fun x y => decide (x ≤ y)).Perm d := by
 refine ⟨?_,List.mergeSort_perm _ _⟩
 have := List.pairwise_mergeSort (le := fun (x y : Tx) => decide (x ≤ y)) (fun a b c h1 h2 => by
  simp only [decide_eq_true_eq] at h1 h2 ⊢; exact List.le_trans h1 h2) (fun a b => by
  simp only [Bool.or_eq_true,decide_eq_true_eq]; exact List.le_total a b) d
 exact this.imp fun h => by simpa using h
end Go.Proofs.YtgdabkpahmlkpaaGreatDoor
namespace Go.Proofs.YtgdabkpahmlkpaaGreatDoor
open Go.ChangeShapes Go.WideShapes Go.ChangeAt Go.RowKit Go.Maps
set_option maxRecDepth 100000
set_option linter.unusedVariables false
set_option linter.unusedSimpArgs false

def RiseP (base : Nat) (W : World) (R : List Tx) (e : Ending) (W' : World) : Prop := ∃ v9,e = .returned v9 ∧ W'.ownsRow base 9 1 v9 R.length (R.map sV) ∧ Below base W W'
set_option maxHeartbeats 2000000 in
theorem rising_none (a : Option Addr) (cap base : Nat) (W : World) (hb : base ≤ W.heap.size) :
  Calls Tryz.prog 231 #[.slice a 0 cap] W (RiseP base W []) := by
 have hmm := @run_makeMap Tryz.prog
 have hs := fun w => Tryz.slices_Sort_string_none a cap w
 have HB := Lib.hid hb
 go_enter Tryz.func231,Tryz.ntmps231
 go_wp2
 refine wp_loop_rounds 1 ?_
 rw [rounds_succ]
 go_wp2_with (go_at_call 101; (with_reducible refine (hs _).mono ?_); rintro e w2 ⟨rfl,rfl⟩)
 refine wp_loop_rounds 1 ?_
 rw [rounds_succ]
 go_wp2
 go_ret
 exact ⟨_,rfl,World.ownsRow_nil _ _ _ _,(Below.refl _ _).alloc HB.out _⟩
theorem cell_own {W : World} {b g n cap : Nat} {d : List Tx} (h : W.ownsRow b 9 1 (.slice (some ⟨g,0,none⟩) n cap) n (d.map sV)) (k : Nat) (hk : k < d.length) : W.cell? ⟨g,k,none⟩ = some (sV d[k]) := by
 have := h.cells (g := g) rfl k (sV d[k]) (by rw [List.getElem?_map,List.getElem?_eq_getElem hk]; rfl)
 rwa [Addr.add_lit,Nat.zero_add] at this
theorem sort_step (W wr : World) (base g n cap M : Nat) (d : List Tx) (D : DataW Unit) (hn : n = d.length) (hl : n ≤ 2000000000) (hB : Below base W wr) (hbase : base ≤ W.heap.size) (hO : wr.ownsRow base 9 1 (.slice (some ⟨g,0,none⟩) n cap) n (d.map sV)) (hM : wr.ownsMap Tryz.prog 9 (unitElem (H := Unit)) M n D) :
  Calls Tryz.prog 101 #[.slice (some ⟨g,0,none⟩) n cap] wr fun e w' => e = .returned (.tuple #[]) ∧ w'.ownsRow base 9 1 (.slice (some ⟨g,0,none⟩) n cap) n ((d.mergeSort fun x y => decide (x ≤ y)).map sV) ∧ w'.ownsMap Tryz.prog 9 (unitElem (H := Unit)) M n D ∧ Below base W w' ∧ wr.heap.size ≤ w'.heap.size ∧ g < wr.heap.size ∧ M < wr.heap.size := by
 subst hn
 rcases hO.2 with ⟨hnil,_⟩ | ⟨g',cap',cur,e0,hb,hgg,h1,h2,h3,h4⟩
 ·cases hnil
 ·injection e0 with e1 e2 e3
  injection e1 with e1
  injection e1 with e1
  subst e1 e3
  have hg : g < wr.heap.size := (Array.getElem?_eq_some_iff.1 hgg).1
  have hm0 := hM.lt
  refine (Tryz.slices_Sort_string g 0 cap d wr (holds_of_block hgg (by simpa using h4)) hg (by omega)).mono ?_
  rintro e w' ⟨rfl,nn,os,rfl⟩
  refine ⟨rfl,ownsRow_sorted (by simp) hb hgg h1 h2 h3,hM.kept (grownBy_sorted _) ?_,hB.grown (grownBy_sorted _) (by have := hB.size; omega) (fun j hj => by cases hj; exact hb),(grownBy_sorted (w := wr) (g := g) (n := nn) (os := os) _).size,hg,hm0⟩
  intro e
  exact own_nomap hM hO (by rw [e]; rfl)
set_option maxHeartbeats 4000000 in
theorem rising_some (g n cap base : Nat) (d : List Tx) (W : World) (hb : base ≤ W.heap.size) (hv : W.ownsRow base 9 1 (.slice (some ⟨g,0,none⟩) n cap) n (d.map sV)) (hnd : n = d.length) (hn : n ≤ 2000000000) (hx : ∀ x ∈ d,x.length ≤ 2000000001) :
  Calls Tryz.prog 231 #[.slice (some ⟨g,0,none⟩) n cap] W (RiseP base W (riseL d)) := by
 have hmm := @run_makeMap Tryz.prog
 obtain ⟨R,hR⟩ : ∃ R,riseL d = R := ⟨_,rfl⟩
 rw [hR]
 obtain ⟨i0,hi,hz0,hz1,hz2⟩ := info_parts info9
 have HB := Lib.hid hb
 have HV := Lib.hid hv
 have HR := Lib.hid hR
 have HX := Lib.hid hx
 have HN := Lib.hid hnd
 clear hb hv hR hx hnd
 go_enter Tryz.func231,Tryz.ntmps231
 go_wp2
 go_loopg [14] n (fun gg u14 wr => ∃ k : Nat,u14 = .int .i64 (k : Int) ∧ k + gg = n ∧ MapI wr W.heap.size k (fun x => (d.take k).contains x) ∧ wr.ownsRow base 9 1 (.slice (some ⟨g,0,none⟩) n cap) n (d.map sV) ∧ Below base W wr ∧ W.heap.size < wr.heap.size)
 case atStart => exact ⟨0,rfl,by omega,MapI.made _,HV.out.alloc _,(Below.refl _ _).alloc HB.out _,by simp⟩
 case round =>
  obtain ⟨k,rfl,hk,hM,hO,hBl,hsz⟩ := hrel
  obtain ⟨D,hown,hhas⟩ := hM
  have HO := Lib.hid hO
  have HBL := Lib.hid hBl
  have HOWN := Lib.hid hown
  have HHAS := Lib.hid hhas
  have HSZ := Lib.hid hsz
  clear hown hhas hO hBl hsz
  cases gk with
  | succ gg =>
   have hkd : k < d.length := by rw [← HN.out]; omega
   have c1 := cell_own HO.out k hkd
   obtain ⟨x,hxe⟩ : ∃ x,d[k] = x := ⟨_,rfl⟩
   have hkey := keyS x (by rw [← hxe]; exact HX.out _ (List.getElem_mem hkd))
   have htk : ∀ y,(d.take (k + 1)).contains y = (y == x || (d.take k).contains y) := fun y => by
    rw [Bool.eq_iff_iff,List.contains_iff_mem,take_mem hkd,hxe,Bool.or_eq_true,List.contains_iff_mem,beq_iff_eq,Or.comm]
   rw [hxe] at c1
   obtain ⟨s,hse⟩ : ∃ s,(⟨x.toArray⟩ : ByteArray) = s := ⟨_,rfl⟩
   unfold sV at c1 hkey
   rw [hse] at c1 hkey
   have l0 : (0 : Int) ≤ (k : Int) := by omega
   have l1 : (k : Int) < (n : Int) := by omega
   obtain ⟨k1,hk1⟩ : ∃ k1,k + 1 = k1 := ⟨_,rfl⟩
   have wk : IntKind.i64.wrap ((k : Int) + 1) = (k1 : Int) := by rw [show (k : Int) + 1 = (k1 : Int) by omega]; exact wrap_nat (by omega)
   have HTK := Lib.hid htk
   have HK1 := Lib.hid hk1
   clear hse hxe htk hkd hk1
   go_wp2_with (first
    | (at_mapUpdate; refine wpList_mapUpdate_own _ rfl _ _ _ 289 rfl 9 169 lawS undM (unitElem (H := Unit)) W.heap.size k _ rfl HOWN.out (by unfold maxLen; omega) _ _ _ rfl rfl hkey _ [] unitElem_mk ?_; intro w1 hown1 hgrow1))
   go_roundg gg
   case measure => exact Nat.lt_succ_self _
   case rel =>
    refine ⟨k1,rfl,by have := HK1.out; omega,⟨_,by rw [← HK1.out]; exact hown1,fun y => ?_⟩,HO.out.kept hgrow1 (.inr (own_nomap HOWN.out HO.out)),HBL.out.grown hgrow1 (by have := HSZ.out; have := HB.out; omega) (fun j hj => by cases hj; exact HB.out),Nat.lt_of_lt_of_le HSZ.out hgrow1.size⟩
    rw [has_put HOWN.out.isMap,HHAS.out,← HK1.out]
    exact (HTK.out y).symm
  | zero =>
   have hkn : k = n := by omega
   subst hkn
   have hss := sort_step W wr base g k cap W.heap.size d D HN.out hn HBL.out HB.out HO.out HOWN.out
   have HSS := Lib.hid hss
   have hsi := sorted_is d
   have HSI := Lib.hid hsi
   have hlen : (d.mergeSort fun x y => decide (x ≤ y)).length = k := by rw [List.length_mergeSort,HN.out]
   have HLEN := Lib.hid hlen
   generalize (d.mergeSort fun x y => decide (x ≤ y)) = ss at *
   clear hss hsi hlen
   have l1 : ¬ ((k : Int) < (k : Int)) := by omega
   go_wp2_with (go_at_call 101; (with_reducible refine HSS.out.mono ?_); rintro e w2 ⟨rfl,hO2,hM2,hB2,hs2,hg2,hm2⟩; have HO2 := Lib.hid hO2; have HM2 := Lib.hid hM2; have HB2 := Lib.hid hB2; have HS2 := Lib.hid (And.intro hs2 (And.intro hg2 hm2)); clear hO2 hM2 hB2 hs2 hg2 hm2)
   have hhas2 : ∀ x,Maps.has D (Lit.string x) = d.contains x := fun x => by have := HHAS.out x; rwa [HN.out,List.take_length] at this
   have HHAS2 := Lib.hid hhas2
   clear hhas2 HHAS l1
   go_loopg [6,26] k (fun gg u6 u26 wx => ∃ (i : Nat) (T : List Tx) (E : DataW Unit),u26 = .int .i64 (i : Int) ∧ i + gg = k ∧ Told ss T i ∧ T.length ≤ i ∧ wx.ownsMap Tryz.prog 9 (unitElem (H := Unit)) W.heap.size k E ∧ (∀ x,Maps.has E (Lit.string x) = (d.contains x && !(ss.take i).contains x)) ∧
    wx.ownsRow base 9 1 (.slice (some ⟨g,0,none⟩) k cap) k (ss.map sV) ∧ wx.ownsRow w2.heap.size 9 1 u6 T.length (T.map sV) ∧ Below base W wx ∧ w2.heap.size ≤ wx.heap.size)
   case atStart => exact ⟨0,[],D,rfl,by omega,Told.start ss,Nat.zero_le _,HM2.out,fun x => by rw [HHAS2.out,List.take_zero]; simp,HO2.out,World.ownsRow_nil _ _ _ _,HB2.out,Nat.le_refl _⟩
   case round =>
    obtain ⟨i,T,E,rfl,hik,hT,hTl,hE,hEh,hOx,hVx,hBx,hsx⟩ := hrel
    have HT := Lib.hid hT
    have HE := Lib.hid hE
    have HEH := Lib.hid hEh
    have HOX := Lib.hid hOx
    have HBX := Lib.hid hBx
    have HSX := Lib.hid hsx
    clear hT hE hEh hOx hBx hsx HO HBL HOWN HSS HO2 HM2 HB2 HSZ
    cases gk with
    | zero =>
     have hin : i = k := by omega
     subst hin
     have hR2 : T = R := by
      have := HT.out
      rw [← HLEN.out] at this
      rw [← HR.out]; exact this.done HSI.out.2
     have l1 : ¬ ((i : Int) < (i : Int)) := by omega
     have HVX := Lib.hid hVx
     clear hVx
     go_wp2
     go_ret
     refine ⟨_,rfl,?_,HBX.out⟩
     rw [← hR2]
     exact ownsRow_base HVX.out (by have := HS2.out; have := HB.out; omega)
    | succ gg =>
     have hid : i < ss.length := by rw [HLEN.out]; omega
     have c1 := cell_own HOX.out i hid
     obtain ⟨x,hxe⟩ : ∃ x,ss[i] = x := ⟨_,rfl⟩
     have hxd : x ∈ d := HSI.out.2.mem_iff.1 (by rw [← hxe]; exact List.getElem_mem hid)
     have hkey := keyS x (HX.out _ hxd)
     have hEx : Maps.has E (Lit.string x) = !(ss.take i).contains x := by
      rw [HEH.out]
      have : d.contains x = true := List.contains_iff_mem.2 hxd
      rw [this,Bool.true_and]
     have hold : x ∈ ss.take i → Told ss T (i + 1) := fun h => HT.out.old hid (by rw [hxe]; exact h)
     have hnew : x ∉ ss.take i → Told ss (T ++ [x]) (i + 1) := fun h => by have := HT.out.new HSI.out.1 hid (by rw [hxe]; exact h); rwa [hxe] at this
     have htk : ∀ y,(ss.take (i + 1)).contains y = ((ss.take i).contains y || y == x) := fun y => by
      rw [Bool.eq_iff_iff,List.contains_iff_mem,take_mem hid,hxe,Bool.or_eq_true,List.contains_iff_mem,beq_iff_eq]
     rw [hxe] at c1
     obtain ⟨s,hse⟩ : ∃ s,(⟨x.toArray⟩ : ByteArray) = s := ⟨_,rfl⟩
     have hsv : sV x = .string s := by unfold sV; rw [hse]
     unfold sV at c1 hkey
     rw [hse] at c1 hkey
     have l0 : (0 : Int) ≤ (i : Int) := by omega
     have l1 : (i : Int) < (k : Int) := by omega
     obtain ⟨i1,hi1⟩ : ∃ i1,i + 1 = i1 := ⟨_,rfl⟩
     have wk : IntKind.i64.wrap ((i : Int) + 1) = (i1 : Int) := by rw [show (i : Int) + 1 = (i1 : Int) by omega]; exact wrap_nat (by omega)
     rw [hi1] at hold hnew htk
     have HTK := Lib.hid htk
     have HI1 := Lib.hid hi1
     have HSV := Lib.hid hsv
     have HVX := Lib.hid hVx
     obtain ⟨a3,c3,rfl⟩ : ∃ a3 c3,u6 = .slice a3 T.length c3 := by
      rcases hVx.2 with ⟨rfl,hz⟩ | ⟨g',cap',cur,rfl,_⟩
      ·exact ⟨none,0,by rw [hz]⟩
      ·exact ⟨_,_,rfl⟩
     clear hse hxe htk hid hi1 hsv hxd hVx
     by_cases hm : x ∈ ss.take i
     ·have hb : Maps.has E (Lit.string x) = false := by rw [hEx,List.contains_iff_mem.2 hm]; rfl
      have HT3 := Lib.hid (hold hm)
      clear hold hnew hEx
      have HM := Lib.hid hm
      clear hm
      go_wp2_with (at_lookup; refine wpList_lookup_own_unit _ rfl _ _ 289 rfl 9 169 lawS undM (zeroU _) W.heap.size k _ rfl HE.out _ _ rfl hkey ?_; rw [hb])
      go_roundg gg
      case measure => exact Nat.lt_succ_self _
      case rel =>
       refine ⟨i1,T,E,rfl,by have := HI1.out; omega,HT3.out,by have := HI1.out; omega,HE.out.alloc _,fun y => ?_,HOX.out.alloc _,HVX.out.alloc _,HBX.out.alloc (by have := HBX.out.size; have := HB.out; omega) _,by simp; have := HSX.out; omega⟩
       rw [HEH.out,HTK.out]
       by_cases hy : y = x
       ·subst hy; rw [List.contains_iff_mem.2 HM.out]; simp
       ·have : (y == x) = false := by rw [beq_eq_false_iff_ne]; exact hy
        rw [this,Bool.or_false]
     ·have hb : Maps.has E (Lit.string x) = true := by
       rw [hEx]
       have : (ss.take i).contains x = false := by
        cases h : (ss.take i).contains x with
        | false => rfl
        | true => exact absurd (List.contains_iff_mem.1 h) hm
       rw [this]; rfl
      have HT3 := Lib.hid (hnew hm)
      clear hold hnew hEx hm
      have HVB := Lib.hid ((HVX.out.alloc (.cells #[] 169)).alloc (.cells #[.string s] 9))
      have HOB := Lib.hid ((HOX.out.alloc (.cells #[] 169)).alloc (.cells #[.string s] 9))
      have HEB := Lib.hid ((HE.out.alloc (.cells #[] 169)).alloc (.cells #[.string s] 9))
      go_wp2_with (first
       | (at_lookup; refine wpList_lookup_own_unit _ rfl _ _ 289 rfl 9 169 lawS undM (zeroU _) W.heap.size k _ rfl HE.out _ _ rfl hkey ?_; rw [hb])
       | (at_builtin; refine wpList_append_lies _ rfl _ _ 60 rfl w2.heap.size 9 i0 (.string ByteArray.empty) 1 16 und26 hi hz0 hz1 hz2 rfl (by decide) _ T.length (T.map sV) rfl HVB.out ⟨wr.heap.size + 1,0,none⟩ 1 1 [.string s] rfl rfl ?c1 ?c2 (by decide) ?c3 ?c4 ?c5 _ rfl ?_))
      case c1 =>
       intro j u hj
       match j,hj with
       | 0,hj => simp at hj; subst hj; simp [Addr.add]
      case c2 => intro u hu; simp at hu; subst hu; rfl
      case c3 => unfold maxLen; omega
      case c4 => omega
      case c5 => have := HSX.out; simp; omega
      intro g3 cap3 w3 hown3 hgrow3 hat3 hlt3
      have hlow : ∀ q,(Value.slice a3 T.length c3).ownBlock = some q → w2.heap.size ≤ q := fun q hq => (World.ownsRow.lt HVX.out q hq).1
      have hE3 := HEB.out.kept hgrow3 (fun e => by have := hlow _ e.symm; have := HS2.out; omega)
      have hO3 := HOB.out.kept hgrow3 (.inr fun e => by
       have := hlow g (by rw [← e]; rfl)
       have := HS2.out; omega)
      have hB3 := ((HBX.out.alloc (by have := HBX.out.size; have := HB.out; omega) (.cells #[] 169)).alloc (by simp; have := HBX.out.size; have := HB.out; omega) (.cells #[.string s] 9)).grown hgrow3 (by simp; have := HBX.out.size; have := HB.out; omega) (fun q hq => by have := hlow q hq; have := HS2.out; have := HB.out; omega)
      have hs3 := hgrow3.size
      simp only [World.size_alloc] at hs3
      have HE3 := Lib.hid hE3
      have HO3 := Lib.hid hO3
      have HB3 := Lib.hid hB3
      have HOWN3 := Lib.hid hown3
      clear hE3 hO3 hB3 hown3 hlow hgrow3
      go_wp2_with (at_delete; refine wpList_delete_own _ rfl _ _ 289 9 rfl 169 lawS undM _ W.heap.size k E rfl HE3.out _ _ rfl hkey ?_; intro w4 hown4 hturn4)
      go_roundg gg
      case measure => exact Nat.lt_succ_self _
      case rel =>
       have hg4 := hturn4.grown
       have hs4 := hg4.size
       refine ⟨i1,T ++ [x],E.del (Lit.string x),rfl,by have := HI1.out; omega,HT3.out,by have := HI1.out; rw [List.length_append,List.length_singleton]; omega,hown4,fun y => ?_,HO3.out.kept hg4 (.inr (own_nomap HE3.out HO3.out)),?_,HB3.out.grown hg4 (by have := HSX.out; have := HS2.out; have := HB.out; omega) (fun q hq => by cases hq; exact HB.out),by have := HSX.out; omega⟩
       ·rw [has_del,HEH.out,HTK.out,Bool.not_or]
        have : (!(y == x)) = (y != x) := rfl
        rw [this]
        cases (y != x) <;> cases d.contains y <;> cases (ss.take i).contains y <;> rfl
       ·rw [List.length_append,List.length_singleton,List.map_append,List.map_cons,List.map_nil,HSV.out]
        exact HOWN3.out.kept hg4 (.inr (own_nomap HE3.out HOWN3.out))
theorem rising_any (v : Value) (base : Nat) (d : List Tx) (W : World) (hb : base ≤ W.heap.size) (hv : W.ownsRow base 9 1 v d.length (d.map sV)) (hn : d.length ≤ 2000000000) (hx : ∀ x ∈ d,x.length ≤ 2000000001) :
  Calls Tryz.prog 231 #[v] W (RiseP base W (riseL d)) := by
 rcases hv.2 with ⟨rfl,hz⟩ | ⟨g,cap,cur,rfl,_⟩
 ·obtain rfl := List.eq_nil_of_length_eq_zero hz
  exact rising_none none 0 base W hb
 ·exact rising_some g d.length cap base d W hb hv rfl hn hx
end Go.Proofs.YtgdabkpahmlkpaaGreatDoor
namespace Go.Proofs.YtgdabkpahmlkpaaGreatDoor
open Go.ChangeShapes Go.WideShapes Go.ChangeAt Go.RowKit Go.Maps
set_option maxRecDepth 100000
set_option linter.unusedVariables false
set_option linter.unusedSimpArgs false

theorem told_all : ∀ (r d : List (Tx × Nat)),toldL (fun _ _ => true) d r = d ++ r := by
 intro r
 induction r with
 | nil => intro d; simp [toldL]
 | cons x r ih => intro d; rw [toldL,if_pos rfl,ih]; simp
theorem sxt_len {l : List Tok} (hz : ∀ t ∈ l,t.2.1.size ≤ 1000000000) (i : Nat) : (txtAt l i).length ≤ 1000000000 := by
 unfold txtAt
 by_cases hi : i < l.length
 ·rw [List.getElem?_eq_getElem hi]
  have := hz _ (List.getElem_mem hi)
  show l[i].2.1.toList.length ≤ _
  rw [Lib.toList_data]; exact this
 ·rw [List.getElem?_eq_none (by omega)]; exact Nat.zero_le _
theorem nameX_len {l : List Tok} (hz : ∀ t ∈ l,t.2.1.size ≤ 1000000000) (i : Nat) : (nameX l i).length ≤ 2000000001 := by
 have h1 := sxt_len hz i
 have h2 := sxt_len hz (i + 2)
 unfold nameX
 split
 ·rw [List.length_append,List.length_append,List.length_singleton]; omega
 ·omega
theorem fromL_text {l : List Tok} (hz : ∀ t ∈ l,t.2.1.size ≤ 1000000000) : ∀ (n i : Nat),l.length - i ≤ n → ∀ x ∈ fromL l i,x.1.length ≤ 2000000001 := by
 intro n
 induction n using Nat.strongRecOn with
 | ind n ih =>
  intro i hn x hx
  rw [fromL_eq] at hx
  split at hx
  ·cases hx
  ·rename_i hnz
   have h1 := nameW_lt hnz
   have h2 := skip_le l i
   have h3 := alias_le l (skipB l i + nameW l (skipB l i))
   generalize aliasB l (skipB l i + nameW l (skipB l i)) = b at h3 hx
   rcases List.mem_cons.1 hx with e | e
   ·rw [e]; exact nameX_len hz _
   ·split at e
    ·exact ih (n - 1) (by omega) (b + 1) (by omega) x e
    ·cases e
theorem readsAt_len (l : List Tok) (i : Nat) : (readsAt l i).length ≤ l.length := by
 unfold readsAt
 split
 ·rw [List.length_map]; exact fromL_len l _ _ (by omega)
 ·exact Nat.zero_le _
theorem readsAt_text {l : List Tok} (hz : ∀ t ∈ l,t.2.1.size ≤ 1000000000) (i : Nat) : ∀ x ∈ readsAt l i,x.length ≤ 2000000001 := by
 unfold readsAt
 split
 ·intro x hx
  obtain ⟨y,hy,rfl⟩ := List.mem_map.1 hx
  exact fromL_text hz _ _ (Nat.le_refl _) y hy
 ·intro x hx; cases hx
theorem upto_len {f : Nat → List Tx} {m : Nat} (h : ∀ i,(f i).length ≤ m) : ∀ n,(upto f n).length ≤ n * m := by
 intro n
 induction n with
 | zero => exact Nat.zero_le _
 | succ n ih => rw [upto,List.length_append,Nat.succ_mul]; have := h n; omega
theorem upto_text {f : Nat → List Tx} (h : ∀ i,∀ x ∈ f i,x.length ≤ 2000000001) (n : Nat) : ∀ x ∈ upto f n,x.length ≤ 2000000001 := by
 intro x hx
 obtain ⟨i,_,h2⟩ := (upto_mem f n x).1 hx
 exact h i x h2
def ReadJ (w : World) (B : Nat) (pre : List Tx) (d : List (Tx × Nat)) (W : World) : Prop := NmJ w B (pre ++ d.map (·.1)) W
theorem reads_teller (w : World) (v : Value) (l : List Tok) (B : Nat) (pre : List Tx) (z : Nat) (h : TR w v l) (hz : pre.length + z ≤ 2000000000) :
  Teller 228 #[.pointer (some ⟨B,0,none⟩)] v l z (ReadJ w B pre) (fun _ _ => true) where
 enter := fun args w => by show Sem.run Tryz.prog (callFunc 228 args) w = _; go_simp
 reads := fun d W hj => h.below hj.bel
 keeps := fun d W W' hj hb => NmJ.step hj hb
 tells := fun d s p W hj hd hs hp => by
  refine (readsTell w B _ s s.toList (p : Int) W hj (by rw [List.length_append,List.length_map]; omega) rfl).mono fun e W' hh => ⟨hh.1,?_⟩
  unfold ReadJ
  rw [List.map_append,List.map_cons,List.map_nil,← List.append_assoc]
  exact hh.2
def ReadsP (w : World) (R : List Tx) (e : Ending) (w' : World) : Prop := ∃ v,e = .returned v ∧ w'.ownsRow w.heap.size 9 1 v R.length (R.map sV) ∧ Below w.heap.size w w'
set_option maxHeartbeats 2000000 in
theorem reads_any (v : Value) (l : List Tok) (w : World) (h : TR w v l) (hl : l.length ≤ 40000) (hz : ∀ t ∈ l,t.2.1.size ≤ 1000000000) :
  Calls Tryz.prog 200 #[v] w (ReadsP w (readsL l)) := by
 obtain ⟨a,cap,rfl⟩ := h.form
 obtain ⟨i0,hi,hz0,hz1,hz2⟩ := info_parts info9
 have HH := Lib.hid h
 have HZ := Lib.hid hz
 have hJ0 : NmJ w w.heap.size (upto (readsAt l) 0) (w.alloc (.cells #[.slice none 0 0] 60)) :=
  ⟨below_new _ _,Nat.le_refl _,(.slice none 0 0),by show (w.heap.push _)[w.heap.size]? = _; simp,World.ownsRow_nil _ _ _ _⟩
 have HJ0 := Lib.hid hJ0
 clear h hz hJ0
 go_enter Tryz.func200,Tryz.ntmps200
 go_wp2
 go_loopg [9] l.length (fun g u9 wx => ∃ k : Nat,u9 = .int .i64 (k : Int) ∧ k + g = l.length ∧ NmJ w w.heap.size (upto (readsAt l) k) wx)
 case atStart => exact ⟨0,rfl,by omega,HJ0.out⟩
 case round =>
  obtain ⟨k,rfl,hk,hJ⟩ := hrel
  have HJ := Lib.hid hJ
  clear hJ HJ0
  cases gk with
  | zero =>
   have hkl : k = l.length := by omega
   rw [hkl] at HJ
   obtain ⟨a2,c2,hv2,ho2⟩ := HJ.out.form
   have hlen : (upto (readsAt l) l.length).length ≤ 2000000000 := Nat.le_trans (upto_len (readsAt_len l) l.length) (Nat.le_trans (Nat.mul_le_mul hl hl) (by decide))
   have hri := rising_any _ w.heap.size _ wr HJ.out.bel.size ho2 hlen (upto_text (readsAt_text HZ.out) _)
   have c0 := cell_of_one hv2
   have HRI := Lib.hid hri
   have l1 : ¬ ((k : Int) < (l.length : Int)) := by omega
   generalize (upto (readsAt l) l.length).length = m at *
   clear hv2 ho2 hlen hri hkl
   go_wp2_with (go_at_call 231; (with_reducible refine HRI.out.mono ?_); rintro e w2 ⟨v9,rfl,h9,hb9⟩)
   go_ret
   exact ⟨v9,rfl,h9,HJ.out.bel.trans hb9⟩
  | succ g =>
   have hlt : k < l.length := by omega
   have hra := readsAll_any (.slice a l.length cap) l k wr (HH.out.below HJ.out.bel) (by omega) (by omega)
   obtain ⟨b,hb⟩ : ∃ b,readsB l k = b := ⟨_,rfl⟩
   have hat : readsAt l k = if b = true then (fromL l (k + 1)).map (·.1) else [] := by rw [← hb]; rfl
   have hup : upto (readsAt l) (k + 1) = upto (readsAt l) k ++ readsAt l k := rfl
   rw [hb] at hra
   have HRA := Lib.hid hra
   obtain ⟨k1,hk1⟩ : ∃ k1,k + 1 = k1 := ⟨_,rfl⟩
   have wk : IntKind.i64.wrap ((k : Int) + 1) = (k1 : Int) := by rw [show (k : Int) + 1 = (k1 : Int) by omega]; exact wrap_nat (by omega)
   have l0 : (0 : Int) ≤ (k : Int) := by omega
   have l1 : (k : Int) < (l.length : Int) := by omega
   have hpl : (upto (readsAt l) k).length + (l.length - k1) ≤ 2000000000 := by
    have h1 := upto_len (readsAt_len l) k
    have h2 : k * l.length ≤ 40000 * 40000 := Nat.mul_le_mul (by omega) hl
    omega
   rw [hk1] at hat hup
   have HUP := Lib.hid hup
   have HAT := Lib.hid hat
   have HK1 := Lib.hid hk1
   have hnf : ∀ W,NmJ w w.heap.size (upto (readsAt l) k) W → Calls Tryz.prog 230 #[.slice a l.length cap,.int .i64 (k1 : Int),.func (.func 228) #[] #[.pointer (some ⟨w.heap.size,0,none⟩)]] W fun e w' => e = .returned (.tuple #[]) ∧ NmJ w w.heap.size (upto (readsAt l) k ++ (fromL l k1).map (·.1)) w' := fun W hW => by
    have := namesFrom_any 228 #[.pointer (some ⟨w.heap.size,0,none⟩)] (.slice a l.length cap) l k1 (l.length - k1) W (ReadJ w w.heap.size (upto (readsAt l) k)) (fun _ _ => true) (reads_teller w _ l w.heap.size _ _ HH.out hpl) (by omega) (by omega) HZ.out [] (by unfold ReadJ; rw [List.map_nil,List.append_nil]; exact hW) (by simp)
    rw [told_all,List.nil_append] at this
    exact this
   have HNF := Lib.hid hnf
   clear hra hb hat hup hk1 hpl hnf
   cases b
   ·go_wp2_with (go_at_call 229; (with_reducible refine HRA.out.mono ?_); rintro e w2 ⟨rfl,hb2⟩)
    go_roundg g
    case measure => exact Nat.lt_succ_self _
    case rel =>
     refine ⟨k1,rfl,by have := HK1.out; omega,?_⟩
     rw [HUP.out,HAT.out,if_neg (by decide),List.append_nil]
     exact HJ.out.step hb2
   ·go_wp2_with (first
     | (go_at_call 229; (with_reducible refine HRA.out.mono ?_); rintro e w2 ⟨rfl,hb2⟩; have HJ2 := Lib.hid (HJ.out.step hb2); clear hb2)
     | (go_at_call 230; (with_reducible refine (HNF.out _ HJ2.out).mono ?_); rintro e w3 ⟨rfl,hJ3⟩; have HJ3 := Lib.hid hJ3; clear hJ3))
    go_roundg g
    case measure => exact Nat.lt_succ_self _
    case rel =>
     refine ⟨k1,rfl,by have := HK1.out; omega,?_⟩
     rw [HUP.out,HAT.out]
     simp only [if_true]
     exact HJ3.out

def fmCells (f : Fm) : List Value := [.int .i64 f.1,.bool f.2.1,.string f.2.2]
def formCells : Array Value := (formsC.flatMap fmCells).toArray
structure Wq (m : Int) (w : World) : Prop where
 wd : Wd m w
 tab : Lib.TabIs Tryz.prog w "internal/strconv.uint64pow10" .u64 Lib.pow10Tab
 frm : ∃ t fr,w.heap[0]? = some (.cells formCells t fr)
 err : ∃ ev,w.cell? ⟨3,0,none⟩ = some ev ∧ (ev = .nilIface ∨ ∃ te pe,ev = .iface te pe)
theorem tab_below {w w' : World} {name : String} {k : IntKind} {zs : List Int} (h : Lib.TabIs Tryz.prog w name k zs) (b : Below w.heap.size w w') : Lib.TabIs Tryz.prog w' name k zs := by
 unfold Lib.TabIs World.var? at *
 cases hg : Tryz.prog.globalNamed name with
 | none => simp [hg] at h
 | some g =>
  simp only [hg,Option.bind_some] at h ⊢
  have hlt : g < w.heap.size := by
   rcases Nat.lt_or_ge g w.heap.size with h' | h'
   ·exact h'
   ·rw [Array.getElem?_eq_none h'] at h; simp at h
  rw [b.block g hlt]
  exact h
theorem Wq.below {m : Int} {w w' : World} (h : Wq m w) (b : Below w.heap.size w w') : Wq m w' := by
 obtain ⟨t,fr,hf⟩ := h.frm
 obtain ⟨ev,h1,h2⟩ := h.err
 exact ⟨h.wd.below b,tab_below h.tab b,⟨t,fr,(b.block _ (Array.getElem?_eq_some_iff.1 hf).1).trans hf⟩,ev,(b.cell (p := ⟨3,0,none⟩) (World.block_lt_of_cell? w _ h1)).trans h1,h2⟩
theorem below_grow (w : World) (k : Nat) (os : Array Obj) : Below w.heap.size w (Go.Sort.grow (w.drewN k) os) := by
 refine ⟨rfl,rfl,rfl,?_,fun i hi => ?_⟩
 ·show w.heap.size ≤ (w.heap ++ os).size
  rw [Array.size_append]; omega
 ·show (w.heap ++ os)[i]? = _
  rw [Array.getElem?_append_left hi]
theorem itoa_any (n : Int) (m : Int) (w : World) (h0 : -9223372036854775808 ≤ n) (h1 : n ≤ 9223372036854775807) (h : Wq m w) :
  Calls Tryz.prog 117 #[.int .i64 n] w fun e w' => e = .returned (.string (bb (Lib.itoa n))) ∧ Below w.heap.size w w' :=
 (Tryz.strconv_Itoa n h0 h1 w h.tab).mono fun e w' ⟨he,k,os,hw⟩ => ⟨he,by rw [hw]; exact below_grow w k os⟩
abbrev fmV (f : Fm) : Value := .agg #[.int .i64 f.1,.bool f.2.1,.string f.2.2]
abbrev cmV (c : Cm) : Value := .agg #[.int .i64 c.1,.string c.2.1,.int .i64 c.2.2.1,.int .i64 c.2.2.2.1,.bool c.2.2.2.2]
abbrev tkV (t : Tok) : Value := .agg #[.int .i64 t.1,.string t.2.1,.int .i64 t.2.2]
def i64B (n : Int) : Prop := -9223372036854775808 ≤ n ∧ n ≤ 9223372036854775807
theorem fill_keep {g : Nat} {T : ByteArray} {K V : Int} {m : Int} {W w w' : World} (hS : w.cell? ⟨g,1,none⟩ = some (.string T) ∧ w.cell? ⟨g,2,none⟩ = some (.int .i64 K) ∧ w.cell? ⟨g,3,none⟩ = some (.int .i64 V) ∧ Below W.heap.size W w ∧ Wq m w) (b : Below w.heap.size w w') :
  w'.cell? ⟨g,1,none⟩ = some (.string T) ∧ w'.cell? ⟨g,2,none⟩ = some (.int .i64 K) ∧ w'.cell? ⟨g,3,none⟩ = some (.int .i64 V) ∧ Below W.heap.size W w' ∧ Wq m w' := by
 obtain ⟨h1,h2,h3,h4,h5⟩ := hS
 have hl : g < w.heap.size := World.block_lt_of_cell? w _ h1
 exact ⟨(b.cell (p := ⟨g,1,none⟩) hl).trans h1,(b.cell (p := ⟨g,2,none⟩) hl).trans h2,(b.cell (p := ⟨g,3,none⟩) hl).trans h3,h4.trans (b.mono h4.size),h5.below b⟩
set_option maxHeartbeats 4000000 in
theorem fill_any (f : Fm) (c : Cm) (m : Int) (w : World) (hw : Wq m w) (hk : i64B c.2.2.1) (hv : i64B c.2.2.2.1) (hwf : wfT f.2.2.data.toList = true) (hsz : f.2.2.size ≤ 100) (hR : (fillC f c).length ≤ 1000000) :
  Calls Tryz.prog 80 #[fmV f,cmV c] w fun e w' => e = .returned (.string (bb (fillC f c))) ∧ Below w.heap.size w w' := by
 obtain ⟨fk,fb,ft⟩ := f
 obtain ⟨ck,T,K0,V0,kd⟩ := c
 have HW := Lib.hid hw
 have HI : Hid (∀ W,Wq m W → Calls Tryz.prog 117 #[.int .i64 K0] W fun e w' => e = .returned (.string (bb (Lib.itoa K0))) ∧ Below W.heap.size W w') := Lib.hid (fun W hW => itoa_any K0 m W hk.1 hk.2 hW)
 have HJ : Hid (∀ W,Wq m W → Calls Tryz.prog 117 #[.int .i64 V0] W fun e w' => e = .returned (.string (bb (Lib.itoa V0))) ∧ Below W.heap.size W w') := Lib.hid (fun W hW => itoa_any V0 m W hv.1 hv.2 hW)
 have HRR := Lib.hid (fun p o cap W h ho hne B hB => rreplace_any p o cap T (bb (Lib.itoa K0)) (bb (Lib.itoa V0)) ft W h ho hne B hB hwf (Nat.le_trans hsz (by decide)) _ (by rw [bb_list,bb_list]; rfl) hR)
 clear hw hk hv hwf hsz hR
 go_enter Tryz.func80,Tryz.ntmps80
 go_wp2
 obtain ⟨W1,hW1⟩ : ∃ W1,(w.alloc (.cells #[.int .i64 fk,.bool fb,.string ft] 122)).alloc (.cells #[.int .i64 ck,.string T,.int .i64 K0,.int .i64 V0,.bool kd] 24) = W1 := ⟨_,rfl⟩
 have hbl : Blk W1 (w.heap.size + 1) 24 #[.int .i64 ck,.string T,.int .i64 K0,.int .i64 V0,.bool kd] := by rw [← hW1]; exact Blk.newAt _ _ _ _ (by simp)
 have hbf : Blk W1 w.heap.size 122 #[.int .i64 fk,.bool fb,.string ft] := by rw [← hW1]; exact (Blk.new _ _ _).alloc _
 have hb1 : Below w.heap.size w W1 := by rw [← hW1]; exact ((Below.refl _ _).alloc (Nat.le_refl _) _).alloc (by simp) _
 rw [hW1]
 have c1 : W1.cell? ⟨w.heap.size + 1,1,none⟩ = some (.string T) := hbl.cell 1
 have c2 : W1.cell? ⟨w.heap.size + 1,2,none⟩ = some (.int .i64 K0) := hbl.cell 2
 have c3 : W1.cell? ⟨w.heap.size + 1,3,none⟩ = some (.int .i64 V0) := hbl.cell 3
 have HBL := Lib.hid hbl
 have HBF := Lib.hid hbf
 have HB1 := Lib.hid hb1
 have HWA : Hid (Wq m W1.drew) := Lib.hid ((HW.out.below hb1).below ((Below.refl _ _).drew))
 clear hW1 hbl hbf hb1
 refine wp_region_held_drew (S := fun w' => w'.cell? ⟨w.heap.size + 1,1,none⟩ = some (.string T) ∧ w'.cell? ⟨w.heap.size + 1,2,none⟩ = some (.int .i64 K0) ∧ w'.cell? ⟨w.heap.size + 1,3,none⟩ = some (.int .i64 V0) ∧ Below W1.heap.size W1 w' ∧ Wq m w') (by kernel_rfl) ?_ (fun hS => ?_)
 ·exact ⟨c1,c2,c3,(Below.refl _ _).drew,HWA.out⟩
 try dsimp only at hS
 refine tkY 0 ?_ rfl hS ?_ ?_;rotate_left
 ·intro wz hSz;obtain ⟨hz1,hz2,hz3,hz4,hz5⟩ := hSz;go_simp;all_goals with_reducible rfl
 (try simp only [Act.put,pu]);refine tkY 1 ?_ rfl hS ?_ ?_;rotate_left
 ·intro wz hSz;obtain ⟨hz1,hz2,hz3,hz4,hz5⟩ := hSz;go_simp;all_goals with_reducible rfl
 (try simp only [Act.put,pu]);refine tkY 2 ?_ rfl hS ?_ ?_;rotate_left
 ·intro wz hSz;obtain ⟨hz1,hz2,hz3,hz4,hz5⟩ := hSz;go_simp;all_goals with_reducible rfl
 (try simp only [Act.put,pu]);refine tkY 3 ?_ rfl hS ?_ ?_;rotate_left
 ·intro wz hSz;obtain ⟨hz1,hz2,hz3,hz4,hz5⟩ := hSz;go_simp;all_goals with_reducible rfl
 (try simp only [Act.put,pu]);refine tkY 5 ?_ rfl hS ?_ ?_;rotate_left
 ·intro wz hSz;obtain ⟨hz1,hz2,hz3,hz4,hz5⟩ := hSz;go_simp;all_goals with_reducible rfl
 (try simp only [Act.put,pu]);refine tkY 6 ?_ rfl hS ?_ ?_;rotate_left
 ·intro wz hSz;obtain ⟨hz1,hz2,hz3,hz4,hz5⟩ := hSz;go_simp;all_goals with_reducible rfl
 try simp only [Act.put,pu]
 refine wpAnyH_ready (rs := [4]) (by kernel_rfl) (by simp) (AllReadyH.cons rfl (fun K hK => ?_) AllReadyH.nil)
 go_simp
 (go_at_call 117; refine (HI.out _ hS.2.2.2.2).mono ?_; rintro e w2 ⟨rfl,hb⟩)
 refine hK.out _ _ ?_ (fun hSn => ?_)
 ·exact fill_keep hS hb
 clear hK K hS
 have hS := hSn
 clear hSn
 try dsimp only at hS
 try simp only [Act.put,pu]
 refine wpAnyH_ready (rs := [7]) (by kernel_rfl) (by simp) (AllReadyH.cons rfl (fun K hK => ?_) AllReadyH.nil)
 go_simp
 (go_at_call 117; refine (HJ.out _ hS.2.2.2.2).mono ?_; rintro e w2 ⟨rfl,hb⟩)
 refine hK.out _ _ ?_ (fun hSn => ?_)
 ·exact fill_keep hS hb
 clear hK K hS
 have hS := hSn
 clear hSn
 try dsimp only at hS
 try simp only [Act.put,pu]
 refine wpAnyH_ready (rs := [8]) (by kernel_rfl) (by simp) (AllReadyH.cons rfl (fun K hK => ?_) AllReadyH.nil)
 go_simp
 skip
 refine hK.out _ _ ?_ (fun hSn => ?_)
 ·exact fill_keep hS ((Below.refl _ _).alloc (Nat.le_refl _) _)
 clear hK K hS
 have hS := hSn
 clear hSn
 try dsimp only at hS
 try simp only [Act.put,pu]
 refine wpAnyH_ready (rs := [9]) (by kernel_rfl) (by simp) (AllReadyH.cons rfl (fun K hK => ?_) AllReadyH.nil)
 go_simp
 (go_at_call 116; refine (new_any _ T (bb (Lib.itoa K0)) (bb (Lib.itoa V0)) _ (Blk.new _ _ _)).mono ?_; rintro e w4 ⟨p,o,cap,rfl,h4,ho4,hne4,hp4,hb⟩; have hq4 := hS.2.2.2.1.size)
 refine hK.out _ _ ?_ (fun hSn => ?_)
 ·exact fill_keep hS hb
 clear hK K hS
 have hS := hSn
 clear hSn
 try dsimp only at hS
 (try simp only [Act.put,pu]);refine tkY 10 ?_ rfl hS ?_ ?_;rotate_left
 ·intro wz hSz;obtain ⟨hz1,hz2,hz3,hz4,hz5⟩ := hSz;go_simp;all_goals with_reducible rfl
 try simp only [Act.put,pu]
 refine wpAnyH_done (by kernel_rfl) ?_ _
 have hf4 := HBF.out.below hS.2.2.2.1 (Blk.lt HBF.out)
 have cf : w4.cell? ⟨w.heap.size,2,none⟩ = some (.string ft) := hf4.cell 2
 have HBB := Lib.hid (HB1.out.trans (hS.2.2.2.1.mono HB1.out.size))
 have HRP := Lib.hid (HRR.out p o cap w4 h4 ho4 hne4 w.heap.size (by have := HB1.out.size; first | omega | (simp at hp4 hq4; omega)))
 clear hf4 h4 ho4 hne4 hp4 hq4 hS
 go_wp2_with (go_at_call 118; (refine HRP.out.mono ?_); rintro e w5 ⟨rfl,hb5⟩; have HB5 := Lib.hid hb5; clear hb5)
 go_ret
 exact ⟨rfl,HBB.out.trans HB5.out⟩

def kwL (s : ByteArray) : List Tok := [(1,⟨#[102,114,111,109]⟩,0),(1,s,0)]
theorem kw_part (s : ByteArray) : partB (kwL s) 1 = !kwB s := by
 show ((1 : Int) == 2 || (1 : Int) == 1 && !keysL.contains s.toList) = _
 unfold kwB; rw [Lib.toList_data]; rfl
theorem kw_past (s : ByteArray) (i : Nat) (h : 2 ≤ i) : (kwL s)[i]? = none := List.getElem?_eq_none (by simpa [kwL] using h)
theorem part_past (s : ByteArray) (i : Nat) (h : 2 ≤ i) : partB (kwL s) i = false := by unfold partB; rw [kw_past s i h]
theorem is_past (s : ByteArray) (k : Int) (ss : List Tx) (i : Nat) (h : 2 ≤ i) : isTok k ss (kwL s) i = false := by unfold isTok; rw [kw_past s i h]
theorem from_past (s : ByteArray) (i : Nat) (h : 2 ≤ i) : fromL (kwL s) i = [] := by
 have hs : skipB (kwL s) i = i := by unfold skipB; rw [is_past s 1 _ i h]; rfl
 rw [fromL_eq,hs,if_pos]
 unfold nameW
 rw [part_past s i h,if_pos rfl]
theorem is_one (s : ByteArray) (ss : List Tx) : isTok 1 ss (kwL s) 1 = ss.contains s.data.toList := by
 show ((1 : Int) == 1 && ss.contains s.toList) = _
 rw [Lib.toList_data]; rfl
theorem key_sub (s : ByteArray) (ss : List Tx) (h : ss.all (fun x => keysL.contains x) = true) (hk : kwB s = false) : ss.contains s.data.toList = false := by
 cases hc : ss.contains s.data.toList with
 | false => rfl
 | true =>
  have := List.all_eq_true.1 h _ (List.contains_iff_mem.1 hc)
  unfold kwB at hk
  rw [this] at hk; cases hk
theorem kw_from (s : ByteArray) : fromL (kwL s) 1 = if kwB s = true then [] else [(s.data.toList,1)] := by
 rw [fromL_eq]
 by_cases hk : kwB s = true
 ·rw [if_pos hk,if_pos]
  have hp : partB (kwL s) 1 = false := by rw [kw_part,hk]; rfl
  by_cases h1 : isTok 1 [w_only,w_table] (kwL s) 1 = true
  ·have hs : skipB (kwL s) 1 = 2 := by unfold skipB; rw [if_pos h1]
   rw [hs]; unfold nameW; rw [part_past s 2 (by omega),if_pos rfl]
  ·have hs : skipB (kwL s) 1 = 1 := by unfold skipB; rw [if_neg h1]
   rw [hs]; unfold nameW; rw [hp,if_pos rfl]
 ·have hk2 : kwB s = false := by simpa using hk
  have hp : partB (kwL s) 1 = true := by rw [kw_part,hk2]; rfl
  have hs : skipB (kwL s) 1 = 1 := by
   unfold skipB
   rw [is_one,key_sub s _ (by decide) hk2,if_neg (by decide)]
  have hn : nameW (kwL s) 1 = 1 := by
   unfold nameW
   rw [hp,if_neg (by decide),is_past s 5 _ 2 (by omega)]; rfl
  have hx : nameX (kwL s) 1 = s.data.toList := by
   unfold nameX
   rw [hn,if_neg (by decide)]
   show s.toList = _
   rw [Lib.toList_data]
  rw [if_neg hk,hs,hn,if_neg (by decide),hx]
  have hc : commaB (kwL s) (aliasB (kwL s) (1 + 1)) = false := by
   unfold commaB
   exact is_past s 5 _ _ (alias_le (kwL s) 2).1
  rw [hc,if_neg (by decide)]
theorem kw_reads (s : ByteArray) : readsL (kwL s) = if kwB s = true then [] else [s.data.toList] := by
 have h0 : readsAt (kwL s) 0 = if kwB s = true then [] else [s.data.toList] := by
  unfold readsAt
  have : readsB (kwL s) 0 = true := by
   unfold readsB
   have e1 : isTok 1 [w_from] (kwL s) 0 = true := by kernel_rfl
   rw [e1]; simp
  rw [this,if_pos rfl,kw_from]
  by_cases hk : kwB s = true
  ·rw [if_pos hk,if_pos hk]; rfl
  ·rw [if_neg hk,if_neg hk]; rfl
 have h1 : readsAt (kwL s) 1 = [] := by
  unfold readsAt
  rw [from_past s (1 + 1) (by omega)]
  split <;> rfl
 show riseL ((([] : List Tx) ++ readsAt (kwL s) 0) ++ readsAt (kwL s) 1) = _
 rw [h0,h1]
 by_cases hk : kwB s = true
 ·rw [if_pos hk]; rfl
 ·rw [if_neg hk]; rfl
theorem own_shape {w : World} {B z n : Nat} {e : TypeId} {v : Value} {xs : List Value} (h : w.ownsRow B e z v n xs) : ∃ a m c,v = .slice a m c ∧ m = n := by
 rcases h.2 with ⟨rfl,h0⟩ | ⟨g,cap,cur,rfl,_⟩
 ·exact ⟨_,_,_,rfl,h0.symm⟩
 ·exact ⟨_,_,_,rfl,rfl⟩
theorem kw_any (s : ByteArray) (w : World) (hs : s.size ≤ 1000000000) :
  Calls Tryz.prog 170 #[.string s] w fun e w' => e = .returned (.bool (kwB s)) ∧ Below w.heap.size w w' := by
 have hbl : (w.alloc (.cells #[.int .i64 1,.string ⟨#[102,114,111,109]⟩,.int .i64 0,.int .i64 1,.string s,.int .i64 0] 118)).heap[w.heap.size]? = some (.cells (tokRow (kwL s)).toArray 118 (0,0)) := by
  show (w.heap.push _)[w.heap.size]? = _
  rw [Array.getElem?_push_size]
  rfl
 have hTR := TR.block hbl
 have HR := Lib.hid (reads_any _ (kwL s) _ hTR (by simp [kwL]) (by
  intro t ht
  simp only [kwL,List.mem_cons,List.not_mem_nil,or_false] at ht
  rcases ht with rfl | rfl
  ·show (⟨#[102,114,111,109]⟩ : ByteArray).size ≤ _; decide
  ·exact hs))
 have HB := Lib.hid ((Below.refl w.heap.size w).alloc (Nat.le_refl _) (.cells #[.int .i64 1,.string ⟨#[102,114,111,109]⟩,.int .i64 0,.int .i64 1,.string s,.int .i64 0] 118))
 have hre := kw_reads s
 obtain ⟨Q,hQ⟩ : ∃ Q,kwB s = Q := ⟨_,rfl⟩
 rw [hQ] at hre ⊢
 have HRE := Lib.hid hre
 clear hbl hTR hre hs
 go_enter Tryz.func170,Tryz.ntmps170
 go_wp2_with (go_at_call 200; (refine HR.out.mono ?_); rintro e w2 ⟨v2,rfl,ho,hb⟩; rw [HRE.out] at ho; have HB2 := Lib.hid (HB.out.trans (hb.mono HB.out.size)); clear hb; obtain ⟨a2,n2,c2,rfl,hn2⟩ := own_shape ho; have hq2 : decide ((n2 : Int) = 0) = Q := (by rw [hn2]; cases Q <;> rfl); have hq3 : ((n2 : Int) == 0) = Q := (by rw [hn2]; cases Q <;> rfl); clear ho hn2)
 go_ret
 exact ⟨rfl,HB2.out⟩

theorem trim_zero (w : World) : Calls Tryz.prog 172 #[.string ⟨#[]⟩,.string ⟨#[48,49,50,51,52,53,54,55,56,57]⟩] w fun e w' => e = .returned (.string ⟨#[]⟩) ∧ w' = w := by
 go_enter Tryz.func172,Tryz.ntmps172
 go_wp2
 go_ret
 exact ⟨rfl,rfl⟩
theorem atoi_zero (m : Int) (w : World) (h : Wq m w) : Calls Tryz.prog 173 #[.string ⟨#[]⟩] w fun e w' => (∃ te pe,e = .returned (.tuple #[.int .i64 0,.iface te pe])) ∧ Below w.heap.size w w' := by
 obtain ⟨ev,h1,h2⟩ := h.err
 exact (Tryz.strconv_Atoi_err ⟨#[]⟩ (by decide) rfl ev w h1 h2).mono fun e w' ⟨N,he,_,_,hb⟩ => ⟨⟨_,_,he⟩,hb⟩
def NumP (t : Tok) (w : World) (e : Ending) (w' : World) : Prop := ∃ n : Int,e = .returned (.tuple #[.int .i64 n,.bool (numO t).isSome]) ∧ (∀ k,numO t = some k → n = (k : Int)) ∧ Below w.heap.size w w'
theorem num_none (t : Tok) (h : t.1 ≠ 4 ∨ 6 < t.2.1.size ∨ t.2.1.size = 0 ∨ t.2.1.data.toList.all digB = false) : numO t = none := by
 unfold numO
 refine if_neg fun hh => ?_
 obtain ⟨h1,h2,h3,h4⟩ := hh
 rcases h with h | h | h | h
 ·exact h h1
 ·omega
 ·exact h3 h
 ·rw [h] at h4; cases h4
set_option maxHeartbeats 1600000 in
theorem number_any (t : Tok) (m : Int) (w : World) (hw : Wq m w) : Calls Tryz.prog 136 #[tkV t] w (NumP t w) := by
 obtain ⟨k,s,p⟩ := t
 have HB := Lib.hid ((Below.refl w.heap.size w).alloc (Nat.le_refl _) (.cells #[.int .i64 k,.string s,.int .i64 p] 118))
 have HW1 := Lib.hid (hw.below HB.out)
 by_cases h4 : k = 4
 ·subst h4
  by_cases h6 : 6 < s.size
  ·have hn := num_none (4,s,p) (.inr (.inl h6))
   have l6 : (6 : Int) < (s.size : Int) := by omega
   unfold NumP
   rw [hn]
   clear hn h6 hw
   go_enter Tryz.func136,Tryz.ntmps136
   go_wp2
   go_ret2
   exact ⟨_,rfl,(fun k h => by cases h),HB.out⟩
  ·have l6 : ¬ ((6 : Int) < (s.size : Int)) := by omega
   by_cases h0 : s.size = 0
   ·have hs : s = ⟨#[]⟩ := is_empty s h0
    have hn := num_none (4,s,p) (.inr (.inr (.inl h0)))
    subst hs
    unfold NumP
    rw [hn]
    have HT := Lib.hid (trim_zero (w.alloc (.cells #[.int .i64 4,.string ⟨#[]⟩,.int .i64 p] 118)))
    have HA := Lib.hid (atoi_zero m _ HW1.out)
    clear hn hw h0 h6 l6
    go_enter Tryz.func136,Tryz.ntmps136
    go_wp2_with (first
     | (go_at_call 172; (refine HT.out.mono ?_); rintro e w2 ⟨rfl,hw2⟩; obtain rfl := hw2)
     | (go_at_call 173; (refine HA.out.mono ?_); rintro e w3 ⟨⟨te,pe,rfl⟩,hb3⟩; have HB3 := Lib.hid (HB.out.trans (hb3.mono HB.out.size)); clear hb3))
    go_quiet (fail)
    go_wp2
    go_ret2
    exact ⟨_,rfl,(fun k h => by cases h),HB3.out.trans (belN _ _ _)⟩
   ·have h0' : 0 < s.size := by omega
    cases ha : s.data.toList.all digB with
    | false =>
     have hn := num_none (4,s,p) (.inr (.inr (.inr ha)))
     unfold NumP
     rw [hn]
     have HT := Lib.hid (trim_no s (w.alloc (.cells #[.int .i64 4,.string s,.int .i64 p] 118)) (by omega) h0' ha)
     clear hn hw h0 h6 ha
     go_enter Tryz.func136,Tryz.ntmps136
     go_wp2_with (go_at_call 172; (refine HT.out.mono ?_); rintro e w2 ⟨t2,rfl,ht2,hb2⟩; have ht3 : (!(t2.toList.isEmpty)) = true := (by rw [ht2]; rfl); have HB2 := Lib.hid (HB.out.trans (hb2.mono HB.out.size)); clear hb2)
     go_ret2
     exact ⟨_,rfl,(fun k h => by cases h),HB2.out⟩
    | true =>
     have hn : numO (4,s,p) = some (valL s.data.toList) := if_pos ⟨rfl,by show s.size ≤ 6; omega,h0,ha⟩
     unfold NumP
     rw [hn]
     have HT := Lib.hid (trim_yes s (w.alloc (.cells #[.int .i64 4,.string s,.int .i64 p] 118)) (by omega) h0' ha)
     have HA := Lib.hid (fun W => atoi_any s W h0' (by omega) ha)
     generalize valL s.data.toList = q at *
     clear hn hw h0 h6 ha
     go_enter Tryz.func136,Tryz.ntmps136
     go_wp2_with (first
      | (go_at_call 172; (refine HT.out.mono ?_); rintro e w2 ⟨rfl,hb2⟩; have c1 : w2.cell? ⟨w.heap.size,1,none⟩ = some (.string s) := (hb2.cell (p := ⟨w.heap.size,1,none⟩) (by simp)).trans (by rw [World.cell?_alloc_new]; rfl); have HB2 := Lib.hid (HB.out.trans (hb2.mono HB.out.size)); clear hb2)
      | (go_at_call 173; (refine (HA.out _).mono ?_); rintro e w3 ⟨rfl,hb3⟩; have HB3 := Lib.hid (HB2.out.trans (hb3.mono HB2.out.size)); clear hb3))
     go_quiet (fail)
     go_wp2
     go_ret2
     exact ⟨_,rfl,(fun k h => by injection h with h; rw [h]),HB3.out.trans (belN _ _ _)⟩
 ·have hn := num_none (k,s,p) (.inl h4)
  have l4 : (k != 4) = true := by rw [bne_iff_ne]; exact h4
  unfold NumP
  rw [hn]
  clear hn h4 hw
  go_enter Tryz.func136,Tryz.ntmps136
  go_wp2
  go_ret2
  exact ⟨_,rfl,(fun k h => by cases h),HB.out⟩

theorem self_any (s : ByteArray) (m : Int) (w : World) (hw : Wq m w) :
  Calls Tryz.prog 169 #[.string s] w fun e w' => e = .returned (.bool (selfB s)) ∧ Below w.heap.size w w' := by
 have HS := Lib.hid (scan_out s _ rfl m w hw.wd)
 have hq : selfB s = match (scanA s).1 with | [t] => t.1 == 1 && t.2.1.data.toList == s.data.toList | _ => false := rfl
 generalize (scanA s) = r at *
 obtain ⟨l,er,at_⟩ := r
 simp only at HS hq
 rw [hq]
 clear hq hw
 match l,HS with
 | [],HS =>
  go_enter Tryz.func169,Tryz.ntmps169
  go_wp2_with (go_at_call 81; (refine HS.out.mono ?_); rintro e w2 ⟨v,rfl,hT,hb⟩; have HB := Lib.hid hb; clear hb; obtain ⟨a,cap,rfl⟩ := hT.form; clear hT)
  go_ret
  exact ⟨rfl,HB.out⟩
 | [t],HS =>
  obtain ⟨k,u,p⟩ := t
  obtain ⟨Q,hQ⟩ : ∃ Q,((k == 1) && u.data.toList == s.data.toList) = Q := ⟨_,rfl⟩
  simp only
  rw [hQ]
  go_enter Tryz.func169,Tryz.ntmps169
  go_wp2_with (go_at_call 81; (refine HS.out.mono ?_); rintro e w2 ⟨v,rfl,hT,hb⟩; have HB := Lib.hid hb; clear hb; obtain ⟨g,off,cap,rfl,hcap,hx⟩ := hT.inv 1 rfl (by omega); have hx0 := hx 0 _ rfl; rw [Nat.zero_mul,Nat.add_zero] at hx0; obtain ⟨x0,x1,x2⟩ := hx0; have hcp : (0 : Int) < (cap : Int) := (by omega); clear hT hx)
  all_goals
   go_ret
   refine ⟨?_,HB.out⟩
   rw [← hQ]
   simp [*,Lib.toList_data]
 | t :: u :: l2,HS =>
  have hn : ((t :: u :: l2).length : Int) ≠ 1 := by simp; omega
  go_enter Tryz.func169,Tryz.ntmps169
  go_wp2_with (go_at_call 81; (refine HS.out.mono ?_); rintro e w2 ⟨v,rfl,hT,hb⟩; have HB := Lib.hid hb; clear hb; obtain ⟨a,cap,rfl⟩ := hT.form; clear hT; obtain ⟨z,hz⟩ : ∃ z,(t :: u :: l2).length = z := ⟨_,rfl⟩; rw [hz]; rw [hz] at hn; have hn2 : decide ((z : Int) = 1) = false := (by rw [decide_eq_false_iff_not]; exact hn); have hn3 : ((z : Int) == 1) = false := (by rw [beq_eq_false_iff_ne]; exact hn); clear hz)
  go_ret
  exact ⟨rfl,HB.out⟩
def fourB : List ByteArray := [⟨#[105,110,115,101,114,116]⟩,⟨#[117,112,100,97,116,101]⟩,⟨#[100,101,108,101,116,101]⟩,⟨#[109,101,114,103,101]⟩]
theorem four_con (s : ByteArray) : Lib.containsS (fourB.take 4) s = fourL.contains s.data.toList := by
 have h := conS fourB s
 rw [show fourB.length = 4 from rfl] at h
 rw [h,Lib.toList_data]
 have e : fourB.map (·.toList) = fourL := by
  simp only [fourB,fourL,List.map_cons,List.map_nil,Lib.toList_data]
 rw [e]
set_option maxHeartbeats 1600000 in
theorem tab_any (t : Tok) (m : Int) (w : World) (hw : Wq m w) :
  Calls Tryz.prog 135 #[tkV t] w fun e w' => e = .returned (.bool (tabB t)) ∧ Below w.heap.size w w' := by
 obtain ⟨k,s,p⟩ := t
 have HB := Lib.hid ((Below.refl w.heap.size w).alloc (Nat.le_refl _) (.cells #[.int .i64 k,.string s,.int .i64 p] 118))
 have HW1 := Lib.hid (hw.below HB.out)
 have hc0 : (w.alloc (.cells #[.int .i64 k,.string s,.int .i64 p] 118)).cell? ⟨w.heap.size,1,none⟩ = some (.string s) := by rw [World.cell?_alloc_new]; rfl
 have HC0 := Lib.hid hc0
 clear hw hc0
 show Calls Tryz.prog 135 #[tkV (k,s,p)] w fun e w' => e = .returned (.bool (k == 1 && (decide (s.size ≤ 30) && selfB s && !kwB s && !fourL.contains s.data.toList))) ∧ Below w.heap.size w w'
 by_cases hk : k = 1
 ·subst hk
  by_cases h30 : s.size ≤ 30
  ·rw [decide_eq_true h30]
   have l30 : ¬ ((30 : Int) < (s.size : Int)) := by omega
   have HS := Lib.hid (self_any s m _ HW1.out)
   cases hq : selfB s with
   | false =>
    rw [hq] at HS
    clear h30 hq
    go_enter Tryz.func135,Tryz.ntmps135
    go_wp2_with (go_at_call 169; (refine HS.out.mono ?_); rintro e w2 ⟨rfl,hb⟩; have HB2 := Lib.hid (HB.out.trans (hb.mono HB.out.size)); clear hb)
    go_ret
    exact ⟨rfl,HB2.out⟩
   | true =>
    rw [hq] at HS
    have HK := Lib.hid (fun W => kw_any s W (by omega))
    cases hkw : kwB s with
    | true =>
     rw [hkw] at HK
     clear h30 hq hkw
     go_enter Tryz.func135,Tryz.ntmps135
     go_wp2_with (first
      | (go_at_call 169; (refine HS.out.mono ?_); rintro e w2 ⟨rfl,hb⟩; have c1 : w2.cell? ⟨w.heap.size,1,none⟩ = some (.string s) := (hb.cell (p := ⟨w.heap.size,1,none⟩) (by simp)).trans HC0.out; have HB2 := Lib.hid (HB.out.trans (hb.mono HB.out.size)); clear hb)
      | (go_at_call 170; (refine (HK.out _).mono ?_); rintro e w3 ⟨rfl,hb⟩; have HB3 := Lib.hid (HB2.out.trans (hb.mono HB2.out.size)); clear hb))
     go_ret
     exact ⟨rfl,HB3.out⟩
    | false =>
     rw [hkw] at HK
     have HF := Lib.hid (fun b W hc => (Tryz.slices_Contains_string b 0 4 4 fourB s W (by decide) (by omega) hc))
     simp only [four_con] at HF
     obtain ⟨Q,hQ⟩ : ∃ Q,fourL.contains s.data.toList = Q := ⟨_,rfl⟩
     rw [hQ] at HF ⊢
     clear h30 hq hkw hQ
     go_enter Tryz.func135,Tryz.ntmps135
     go_wp2_with (first
      | (go_at_call 169; (refine HS.out.mono ?_); rintro e w2 ⟨rfl,hb⟩; have c1 : w2.cell? ⟨w.heap.size,1,none⟩ = some (.string s) := (hb.cell (p := ⟨w.heap.size,1,none⟩) (by simp)).trans HC0.out; have HB2 := Lib.hid (HB.out.trans (hb.mono HB.out.size)); have hl2 : w.heap.size < w2.heap.size := (Nat.lt_of_lt_of_le (by simp) hb.size); clear hb)
      | (go_at_call 170; (refine (HK.out _).mono ?_); rintro e w3 ⟨rfl,hb⟩; have hl3 : w.heap.size < w3.heap.size := (Nat.lt_of_lt_of_le hl2 hb.size); have c2 : ∀ o,(w3.alloc o).cell? ⟨w.heap.size,1,none⟩ = some (.string s) := (fun o => (World.cell?_of_block (a := ⟨w.heap.size,1,none⟩) (Below.heap_alloc w3 o w.heap.size hl3)).trans ((hb.cell (p := ⟨w.heap.size,1,none⟩) hl2).trans c1)); have HB3 := Lib.hid (HB2.out.trans (hb.mono HB2.out.size)); clear hb)
      | (go_at_call 171; (refine (HF.out w3.heap.size _ (by
        intro j hj
        rw [Nat.zero_add,World.cell?_alloc_new]
        have hj4 : j < 4 := hj
        match j,hj4 with
        | 0,_ => rfl
        | 1,_ => rfl
        | 2,_ => rfl
        | 3,_ => rfl)).mono ?_); rintro e w4 ⟨rfl,hw4⟩; obtain rfl := hw4))
     go_ret
     exact ⟨by simp,HB3.out.alloc HB3.out.size _⟩
  ·rw [decide_eq_false h30]
   have l30 : (30 : Int) < (s.size : Int) := by omega
   clear h30
   go_enter Tryz.func135,Tryz.ntmps135
   go_wp2
   go_ret
   exact ⟨rfl,HB.out⟩
 ·have l1 : (k != 1) = true := by rw [bne_iff_ne]; exact hk
  have l2 : (k == 1) = false := by rw [beq_eq_false_iff_ne]; exact hk
  rw [l2]
  clear hk
  go_enter Tryz.func135,Tryz.ntmps135
  go_wp2
  go_ret
  exact ⟨rfl,HB.out⟩

abbrev cmCells (c : Cm) : Array Value := #[.int .i64 c.1,.string c.2.1,.int .i64 c.2.2.1,.int .i64 c.2.2.2.1,.bool c.2.2.2.2]
def TakeP (c : Cm) (p t : Tok) (g : Nat) (w : World) (e : Ending) (w' : World) : Prop := e = .returned (.bool (takeC c p t).2) ∧ ∃ c',Blk w' g 24 (cmCells c') ∧ ((takeC c p t).2 = true → c' = (takeC c p t).1) ∧ But [g] w w'
theorem take_keep {g n : Nat} {s : ByteArray} {k p : Int} {W w w' : World} (hS : w.cell? ⟨n,0,none⟩ = some (.int .i64 k) ∧ w.cell? ⟨n,1,none⟩ = some (.string s) ∧ w.cell? ⟨n,2,none⟩ = some (.int .i64 p) ∧ But [g] W w) (b : Below w.heap.size w w') :
  w'.cell? ⟨n,0,none⟩ = some (.int .i64 k) ∧ w'.cell? ⟨n,1,none⟩ = some (.string s) ∧ w'.cell? ⟨n,2,none⟩ = some (.int .i64 p) ∧ But [g] W w' := by
 obtain ⟨h1,h2,h3,h4⟩ := hS
 have hl : n < w.heap.size := World.block_lt_of_cell? w _ h1
 exact ⟨(b.cell (p := ⟨n,0,none⟩) hl).trans h1,(b.cell (p := ⟨n,1,none⟩) hl).trans h2,(b.cell (p := ⟨n,2,none⟩) hl).trans h3,h4.trans ⟨b.os,b.tape,b.output,b.size,fun k hk _ => b.block k hk⟩ (fun x hx => hx) (fun x hx _ => hx)⟩
set_option maxHeartbeats 4000000 in
theorem take_any (g : Nat) (c : Cm) (q t : Tok) (m : Int) (w : World) (hw : Wq m w) (h : Blk w g 24 (cmCells c)) (hs : t.2.1.size ≤ 1048576) :
  Calls Tryz.prog 115 #[nP g,tkV q,tkV t] w (TakeP c q t g w) := by
 obtain ⟨qk,qs,qp⟩ := q
 obtain ⟨k,s,p⟩ := t
 obtain ⟨c0,c1,c2,c3,c4⟩ := c
 have HSZ : Hid (s.size ≤ 1048576) := Lib.hid hs
 have hlt := h.lt
 obtain ⟨W1,hW1⟩ : ∃ W1,(w.alloc (.cells #[.int .i64 qk,.string qs,.int .i64 qp] 118)).alloc (.cells #[.int .i64 k,.string s,.int .i64 p] 118) = W1 := ⟨_,rfl⟩
 have hQ : Blk W1 w.heap.size 118 #[.int .i64 qk,.string qs,.int .i64 qp] := by rw [← hW1]; exact (Blk.new _ _ _).alloc _
 have hT : Blk W1 (w.heap.size + 1) 118 #[.int .i64 k,.string s,.int .i64 p] := by rw [← hW1]; exact Blk.newAt _ _ _ _ (by simp)
 have hG : Blk W1 g 24 (cmCells (c0,c1,c2,c3,c4)) := by rw [← hW1]; exact (h.alloc _).alloc _
 have hb1 : Below w.heap.size w W1 := by rw [← hW1]; exact ((Below.refl _ _).alloc (Nat.le_refl _) _).alloc (by simp) _
 have hB1 : But [g] w W1 := by rw [← hW1]; exact ((But.refl _ _).alloc _).alloc _
 have HW1 := Lib.hid (hw.below hb1)
 have q1 : W1.cell? ⟨w.heap.size,1,none⟩ = some (.string qs) := hQ.cell 1
 have q0 : W1.cell? ⟨w.heap.size,0,none⟩ = some (.int .i64 qk) := hQ.cell 0
 have x0 : W1.cell? ⟨w.heap.size + 1,0,none⟩ = some (.int .i64 k) := hT.cell 0
 have x1 : W1.cell? ⟨w.heap.size + 1,1,none⟩ = some (.string s) := hT.cell 1
 have x2 : W1.cell? ⟨w.heap.size + 1,2,none⟩ = some (.int .i64 p) := hT.cell 2
 have HB1 := Lib.hid hB1
 have HG := Lib.hid hG
 have ng : w.heap.size + 1 ≠ g := by omega
 clear h hw hs hlt hQ hT hG hb1 hB1
 by_cases h1 : qs.data.toList = [36,49]
 ·have e1 : qs = ⟨#[36,49]⟩ := by apply ByteArray.ext; exact Array.ext' h1
  subst e1
  have htk : takeC (c0,c1,c2,c3,c4) (qk,⟨#[36,49]⟩,qp) (k,s,p) = ((c0,s,c2,c3,c4),tabB (k,s,p)) := rfl
  unfold TakeP
  rw [htk]
  have hX9 : ∀ (W : World) (u : ByteArray),W.cell? ⟨w.heap.size + 1,0,none⟩ = some (.int .i64 k) → W.cell? ⟨w.heap.size + 1,1,none⟩ = some (.string s) → W.cell? ⟨w.heap.size + 1,2,none⟩ = some (.int .i64 p) → (W.setCell ⟨g,1,none⟩ (.string u)).cell? ⟨w.heap.size + 1,0,none⟩ = some (.int .i64 k) ∧ (W.setCell ⟨g,1,none⟩ (.string u)).cell? ⟨w.heap.size + 1,1,none⟩ = some (.string s) ∧ (W.setCell ⟨g,1,none⟩ (.string u)).cell? ⟨w.heap.size + 1,2,none⟩ = some (.int .i64 p) := by
   intro W u y0 y1 y2
   have hn : ∀ i j : Nat,(⟨g,i,none⟩ : Addr) ≠ ⟨w.heap.size + 1,j,none⟩ := fun i j e => ng (by injection e with e _ _; exact e.symm)
   exact ⟨(World.cell?_setCell_other _ _ _ _ (hn 1 0)).trans y0,(World.cell?_setCell_other _ _ _ _ (hn 1 1)).trans y1,(World.cell?_setCell_other _ _ _ _ (hn 1 2)).trans y2⟩
  have HWA : Hid (Wq m W1.drew) := Lib.hid (HW1.out.below ((Below.refl _ _).drew))
  have hGA : Blk W1.drew g 24 (cmCells (c0,c1,c2,c3,c4)) := HG.out
  clear h1 htk
  go_enter Tryz.func115,Tryz.ntmps115
  go_wp2
  refine wp_region_held_drew (S := fun w' => w'.cell? ⟨w.heap.size + 1,0,none⟩ = some (.int .i64 k) ∧ w'.cell? ⟨w.heap.size + 1,1,none⟩ = some (.string s) ∧ w'.cell? ⟨w.heap.size + 1,2,none⟩ = some (.int .i64 p) ∧ But [g] W1 w') (by kernel_rfl) ?_ (fun hS => ?_)
  ·exact ⟨x0,x1,x2,(But.refl [g] W1).drewN 1⟩
  try dsimp only at hS
  refine tkY 0 ?_ rfl hS ?_ ?_;rotate_left
  ·intro wz hSz;obtain ⟨hz1,hz2,hz3,hz4⟩ := hSz;go_simp;all_goals with_reducible rfl
  (try simp only [Act.put,pu]);refine tkY 1 ?_ rfl hS ?_ ?_;rotate_left
  ·intro wz hSz;obtain ⟨hz1,hz2,hz3,hz4⟩ := hSz;go_simp;all_goals with_reducible rfl
  (try simp only [Act.put,pu]);refine tkY 2 ?_ rfl hS ?_ ?_;rotate_left
  ·intro wz hSz;obtain ⟨hz1,hz2,hz3,hz4⟩ := hSz;go_simp;all_goals with_reducible rfl
  (try simp only [Act.put,pu]);refine tkY 4 ?_ rfl hS ?_ ?_;rotate_left
  ·intro wz hSz;obtain ⟨hz1,hz2,hz3,hz4⟩ := hSz;go_simp;all_goals with_reducible rfl
  try simp only [Act.put,pu]
  refine wpAnyH_ready (rs := [3]) (by kernel_rfl) (by simp) (AllReadyH.cons rfl (fun K hK => ?_) AllReadyH.nil)
  go_simp
  (go_at_call 85; refine (clone_any s _ (Nat.le_trans HSZ.out (by decide))).mono ?_; rintro e w2 ⟨rfl,hb⟩)
  have hb2x := hb
  have HW2 := Lib.hid (HWA.out.below hb)
  refine hK.out _ _ ?_ (fun hSn => ?_)
  ·exact take_keep hS hb
  clear hK K hS
  have hS := hSn
  clear hSn
  try dsimp only at hS
  try simp only [Act.put,pu]
  refine wpAnyH_ready (rs := [5]) (by kernel_rfl) (by simp) (AllReadyH.cons rfl (fun K hK => ?_) AllReadyH.nil)
  go_simp
  (go_at_call 135; refine (tab_any (k,s,p) m _ HW2.out).mono ?_; rintro e w3 ⟨rfl,hb⟩)
  have hb3x := hb
  refine hK.out _ _ ?_ (fun hSn => ?_)
  ·exact take_keep hS hb
  clear hK K hS
  have hS := hSn
  clear hSn
  try dsimp only at hS
  (try simp only [Act.put,pu]);refine tkY 6 ?_ rfl hS ?_ ?_;rotate_left
  ·intro wz hSz;obtain ⟨hz1,hz2,hz3,hz4⟩ := hSz;go_simp;all_goals with_reducible rfl
  (try simp only [Act.put,pu]);refine tkY 7 ?_ rfl hS ?_ ?_;rotate_left
  ·intro wz hSz;obtain ⟨hz1,hz2,hz3,hz4⟩ := hSz;go_simp;all_goals with_reducible rfl
  try simp only [Act.put,pu]
  have hGb := Blk.below (hGA.below hb2x (Blk.lt hGA)) hb3x (Blk.lt (hGA.below hb2x (Blk.lt hGA)))
  have cg1 : w3.cell? ⟨g,1,none⟩ = some (.string c1) := hGb.cell 1
  have fg1 := hGb.frozen 1
  refine wpAnyH_ready (rs := [8]) (by kernel_rfl) (by simp) (AllReadyH.cons rfl (fun K hK => ?_) AllReadyH.nil)
  go_simp
  obtain ⟨W9,hW9⟩ : ∃ W9,w3.setCell ⟨g,1,none⟩ (.string s) = W9 := ⟨_,rfl⟩
  have hG9 : Blk W9 g 24 (cmCells (c0,s,c2,c3,c4)) := by rw [← hW9]; exact hGb.set_ 1 _
  have hB9 : But [g] w3 W9 := by rw [← hW9]; exact (But.refl [g] w3).set _ _ (.inl (by simp))
  have hN9 := hX9 w3 s hS.1 hS.2.1 hS.2.2.1
  rw [hW9]
  rw [hW9] at hN9
  refine hK.out _ _ ?_ (fun hSn => ?_)
  ·exact ⟨hN9.1,hN9.2.1,hN9.2.2,hS.2.2.2.trans hB9 (fun x hx => hx) (fun x hx _ => hx)⟩
  clear hK K hS
  have hS := hSn
  clear hSn
  try dsimp only at hS
  (try simp only [Act.put,pu]);refine tkY 9 ?_ rfl hS ?_ ?_;rotate_left
  ·intro wz hSz;obtain ⟨hz1,hz2,hz3,hz4⟩ := hSz;go_simp;all_goals with_reducible rfl
  try simp only [Act.put,pu]
  refine wpAnyH_done (by kernel_rfl) ?_ _
  have HS9 := Lib.hid hS.2.2.2
  have HG9 := Lib.hid hG9
  clear hS hG9 hGb cg1 fg1 hb2x hb3x hN9 hB9
  go_wp2
  go_ret
  exact ⟨rfl,(c0,s,c2,c3,c4),HG9.out,(fun _ => rfl),HB1.out.trans HS9.out (fun x hx => hx) (fun x hx _ => hx)⟩
 ·by_cases h2 : qs.data.toList = [36,50]
  ·have e1 : qs = ⟨#[36,50]⟩ := by apply ByteArray.ext; exact Array.ext' h2
   subst e1
   have htk : takeC (c0,c1,c2,c3,c4) (qk,⟨#[36,50]⟩,qp) (k,s,p) = ((c0,c1,(((numO (k,s,p)).getD 0 : Nat) : Int),c3,c4),(numO (k,s,p)).isSome) := rfl
   unfold TakeP
   rw [htk]
   have HN := Lib.hid (number_any (k,s,p) m W1 HW1.out)
   clear h1 h2 htk
   go_enter Tryz.func115,Tryz.ntmps115
   go_wp2_with (go_at_call 136; (refine HN.out.mono ?_); rintro e w3 ⟨n,rfl,hn,hb⟩; have hGb := HG.out.below hb (Blk.lt HG.out); have cg1 : w3.cell? ⟨g,2,none⟩ = some (.int .i64 c2) := hGb.cell 2; have fg1 := hGb.frozen 2; have HGB := Lib.hid hGb; have HN3 := Lib.hid hn; have HB3 := Lib.hid hb; clear hGb hn hb)
   go_ret
   refine ⟨rfl,(c0,c1,n,c3,c4),HGB.out.set_ 2 _,fun h => ?_,(HB1.out.trans ⟨HB3.out.os,HB3.out.tape,HB3.out.output,HB3.out.size,fun k hk _ => HB3.out.block k hk⟩ (T := [g]) (fun x hx => hx) (fun x hx _ => hx)).set _ _ (.inl (by simp))⟩
   obtain ⟨z,hz⟩ := Option.isSome_iff_exists.1 h
   rw [HN3.out z hz,hz]; rfl
  ·by_cases h3 : qs.data.toList = [36,51]
   ·have e1 : qs = ⟨#[36,51]⟩ := by apply ByteArray.ext; exact Array.ext' h3
    subst e1
    have htk : takeC (c0,c1,c2,c3,c4) (qk,⟨#[36,51]⟩,qp) (k,s,p) = ((c0,c1,c2,(((numO (k,s,p)).getD 0 : Nat) : Int),c4),(numO (k,s,p)).isSome) := rfl
    unfold TakeP
    rw [htk]
    have HN := Lib.hid (number_any (k,s,p) m W1 HW1.out)
    clear h1 h2 h3 htk
    go_enter Tryz.func115,Tryz.ntmps115
    go_wp2_with (go_at_call 136; (refine HN.out.mono ?_); rintro e w3 ⟨n,rfl,hn,hb⟩; have hGb := HG.out.below hb (Blk.lt HG.out); have cg1 : w3.cell? ⟨g,3,none⟩ = some (.int .i64 c3) := hGb.cell 3; have fg1 := hGb.frozen 3; have HGB := Lib.hid hGb; have HN3 := Lib.hid hn; have HB3 := Lib.hid hb; clear hGb hn hb)
    go_ret
    refine ⟨rfl,(c0,c1,c2,n,c4),HGB.out.set_ 3 _,fun h => ?_,(HB1.out.trans ⟨HB3.out.os,HB3.out.tape,HB3.out.output,HB3.out.size,fun k hk _ => HB3.out.block k hk⟩ (T := [g]) (fun x hx => hx) (fun x hx _ => hx)).set _ _ (.inl (by simp))⟩
    obtain ⟨z,hz⟩ := Option.isSome_iff_exists.1 h
    rw [HN3.out z hz,hz]; rfl
   ·have htk : takeC (c0,c1,c2,c3,c4) (qk,qs,qp) (k,s,p) = ((c0,c1,c2,c3,c4),k == qk && s.data.toList == qs.data.toList) := by
     unfold takeC
     rw [if_neg h1,if_neg h2,if_neg h3]
    unfold TakeP
    rw [htk]
    have n1 : (qs.toList == [36,49]) = false := by rw [Lib.toList_data,beq_eq_false_iff_ne]; exact h1
    have n2 : (qs.toList == [36,50]) = false := by rw [Lib.toList_data,beq_eq_false_iff_ne]; exact h2
    have n3 : (qs.toList == [36,51]) = false := by rw [Lib.toList_data,beq_eq_false_iff_ne]; exact h3
    have z1 : (⟨#[36,49]⟩ : ByteArray).toList = [36,49] := by rw [Lib.toList_data]
    have z2 : (⟨#[36,50]⟩ : ByteArray).toList = [36,50] := by rw [Lib.toList_data]
    have z3 : (⟨#[36,51]⟩ : ByteArray).toList = [36,51] := by rw [Lib.toList_data]
    obtain ⟨Q,hQ⟩ : ∃ Q,(k == qk && s.data.toList == qs.data.toList) = Q := ⟨_,rfl⟩
    have HQ := Lib.hid hQ
    rw [hQ]
    clear h1 h2 h3 htk hQ
    go_enter Tryz.func115,Tryz.ntmps115
    go_wp2
    all_goals
     go_ret
     refine ⟨?_,(c0,c1,c2,c3,c4),HG.out,fun _ => rfl,HB1.out⟩
     rw [← HQ.out]
     simp [*,Lib.toList_data]
end Go.Proofs.YtgdabkpahmlkpaaGreatDoor
