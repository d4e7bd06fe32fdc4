/- Sen -/
import Derived.Test.YtjmmninopagpjaaGreatDoorG29
import Derived.Test.YtjmmninopagpjaaGreatDoorG30
import Derived.Test.YtjmmninopagpjaaGreatDoorG1
set_option linter.unusedSimpArgs false
set_option linter.unusedVariables false
namespace Go.Proofs.YtjmmninopagpjaaGreatDoor
open Go.ChangeShapes Go.WideShapes Go.ChangeAt Go.RowKit Go.Maps
set_option maxRecDepth 100000
set_option linter.unusedVariables false
set_option linter.unusedSimpArgs false

theorem told_all : ∀ (r d : List (Tx × Nat)),toldL (fun _ _ => true) d r = d ++ r := by
 intro r
 induction r with
 | nil => intro d; simp [toldL]
 | cons x r ih => intro d; rw [toldL,if_pos rfl,ih]; simp
theorem sxt_len {l : List Tok} (hz : ∀ t ∈ l,t.2.1.size ≤ 1000000000) (i : Nat) : (txtAt l i).length ≤ 1000000000 := by
 unfold txtAt
 by_cases hi : i < l.length
 ·rw [List.getElem?_eq_getElem hi]
  have := hz _ (List.getElem_mem hi)
  show l[i].2.1.toList.length ≤ _
  rw [Lib.toList_data]; exact this
 ·rw [List.getElem?_eq_none (by omega)]; exact Nat.zero_le _
theorem nameX_len {l : List Tok} (hz : ∀ t ∈ l,t.2.1.size ≤ 1000000000) (i : Nat) : (nameX l i).length ≤ 2000000001 := by
 have h1 := sxt_len hz i
 have h2 := sxt_len hz (i + 2)
 unfold nameX
 split
 ·rw [List.length_append,List.length_append,List.length_singleton]; omega
 ·omega
theorem fromL_text {l : List Tok} (hz : ∀ t ∈ l,t.2.1.size ≤ 1000000000) : ∀ (n i : Nat),l.length - i ≤ n → ∀ x ∈ fromL l i,x.1.length ≤ 2000000001 := by
 intro n
 induction n using Nat.strongRecOn with
 | ind n ih =>
  intro i hn x hx
  rw [fromL_eq] at hx
  split at hx
  ·cases hx
  ·rename_i hnz
   have h1 := nameW_lt hnz
   have h2 := skip_le l i
   have h3 := alias_le l (skipB l i + nameW l (skipB l i))
   generalize aliasB l (skipB l i + nameW l (skipB l i)) = b at h3 hx
   rcases List.mem_cons.1 hx with e | e
   ·rw [e]; exact nameX_len hz _
   ·split at e
    ·exact ih (n - 1) (by omega) (b + 1) (by omega) x e
    ·cases e
theorem readsAt_len (l : List Tok) (i : Nat) : (readsAt l i).length ≤ l.length := by
 unfold readsAt
 split
 ·rw [List.length_map]; exact fromL_len l _ _ (by omega)
 ·exact Nat.zero_le _
theorem readsAt_text {l : List Tok} (hz : ∀ t ∈ l,t.2.1.size ≤ 1000000000) (i : Nat) : ∀ x ∈ readsAt l i,x.length ≤ 2000000001 := by
 unfold readsAt
 split
 ·intro x hx
  obtain ⟨y,hy,rfl⟩ := List.mem_map.1 hx
  exact fromL_text hz _ _ (Nat.le_refl _) y hy
 ·intro x hx; cases hx
theorem upto_len {f : Nat → List Tx} {m : Nat} (h : ∀ i,(f i).length ≤ m) : ∀ n,(upto f n).length ≤ n * m := by
 intro n
 induction n with
 | zero => exact Nat.zero_le _
 | succ n ih => rw [upto,List.length_append,Nat.succ_mul]; have := h n; omega
theorem upto_text {f : Nat → List Tx} (h : ∀ i,∀ x ∈ f i,x.length ≤ 2000000001) (n : Nat) : ∀ x ∈ upto f n,x.length ≤ 2000000001 := by
 intro x hx
 obtain ⟨i,_,h2⟩ := (upto_mem f n x).1 hx
 exact h i x h2
def ReadJ (w : World) (B : Nat) (pre : List Tx) (d : List (Tx × Nat)) (W : World) : Prop := NmJ w B (pre ++ d.map (·.1)) W
theorem reads_teller (w : World) (v : Value) (l : List Tok) (B : Nat) (pre : List Tx) (z : Nat) (h : TR w v l) (hz : pre.length + z ≤ 2000000000) :
  Teller 235 #[.pointer (some ⟨B,0,none⟩)] v l z (ReadJ w B pre) (fun _ _ => true) where
 enter := fun args w => by show Sem.run Tryz.prog (callFunc 235 args) w = _; go_simp
 reads := fun d W hj => h.below hj.bel
 keeps := fun d W W' hj hb => NmJ.step hj hb
 tells := fun d s p W hj hd hs hp => by
  refine (readsTell w B _ s s.toList (p : Int) W hj (by rw [List.length_append,List.length_map]; omega) rfl).mono fun e W' hh => ⟨hh.1,?_⟩
  unfold ReadJ
  rw [List.map_append,List.map_cons,List.map_nil,← List.append_assoc]
  exact hh.2
def ReadsP (w : World) (R : List Tx) (e : Ending) (w' : World) : Prop := ∃ v,e = .returned v ∧ w'.ownsRow w.heap.size 9 1 v R.length (R.map sV) ∧ Below w.heap.size w w'
set_option maxHeartbeats 2000000 in
theorem reads_any (v : Value) (l : List Tok) (w : World) (h : TR w v l) (hl : l.length ≤ 40000) (hz : ∀ t ∈ l,t.2.1.size ≤ 1000000000) :
  Calls Tryz.prog 209 #[v] w (ReadsP w (readsL l)) := by
 obtain ⟨a,cap,rfl⟩ := h.form
 obtain ⟨i0,hi,hz0,hz1,hz2⟩ := info_parts info9
 have HH := Lib.hid h
 have HZ := Lib.hid hz
 have hJ0 : NmJ w w.heap.size (upto (readsAt l) 0) (w.alloc (.cells #[.slice none 0 0] 50)) :=
  ⟨below_new _ _,Nat.le_refl _,(.slice none 0 0),by show (w.heap.push _)[w.heap.size]? = _; simp,World.ownsRow_nil _ _ _ _⟩
 have HJ0 := Lib.hid hJ0
 clear h hz hJ0
 go_enter Tryz.func209,Tryz.ntmps209
 go_wp2
 go_loopg [9] l.length (fun g u9 wx => ∃ k : Nat,u9 = .int .i64 (k : Int) ∧ k + g = l.length ∧ NmJ w w.heap.size (upto (readsAt l) k) wx)
 case atStart => exact ⟨0,rfl,by omega,HJ0.out⟩
 case round =>
  obtain ⟨k,rfl,hk,hJ⟩ := hrel
  have HJ := Lib.hid hJ
  clear hJ HJ0
  cases gk with
  | zero =>
   have hkl : k = l.length := by omega
   rw [hkl] at HJ
   obtain ⟨a2,c2,hv2,ho2⟩ := HJ.out.form
   have hlen : (upto (readsAt l) l.length).length ≤ 2000000000 := Nat.le_trans (upto_len (readsAt_len l) l.length) (Nat.le_trans (Nat.mul_le_mul hl hl) (by decide))
   have hri := rising_any _ w.heap.size _ wr HJ.out.bel.size ho2 hlen (upto_text (readsAt_text HZ.out) _)
   have c0 := cell_of_one hv2
   have HRI := Lib.hid hri
   have l1 : ¬ ((k : Int) < (l.length : Int)) := by omega
   generalize (upto (readsAt l) l.length).length = m at *
   clear hv2 ho2 hlen hri hkl
   go_wp2_with (go_at_call 238; (with_reducible refine HRI.out.mono ?_); rintro e w2 ⟨v9,rfl,h9,hb9⟩)
   go_ret
   exact ⟨v9,rfl,h9,HJ.out.bel.trans hb9⟩
  | succ g =>
   have hlt : k < l.length := by omega
   have hra := readsAll_any (.slice a l.length cap) l k wr (HH.out.below HJ.out.bel) (by omega) (by omega)
   obtain ⟨b,hb⟩ : ∃ b,readsB l k = b := ⟨_,rfl⟩
   have hat : readsAt l k = if b = true then (fromL l (k + 1)).map (·.1) else [] := by rw [← hb]; rfl
   have hup : upto (readsAt l) (k + 1) = upto (readsAt l) k ++ readsAt l k := rfl
   rw [hb] at hra
   have HRA := Lib.hid hra
   obtain ⟨k1,hk1⟩ : ∃ k1,k + 1 = k1 := ⟨_,rfl⟩
   have wk : IntKind.i64.wrap ((k : Int) + 1) = (k1 : Int) := by rw [show (k : Int) + 1 = (k1 : Int) by omega]; exact wrap_nat (by omega)
   have l0 : (0 : Int) ≤ (k : Int) := by omega
   have l1 : (k : Int) < (l.length : Int) := by omega
   have hpl : (upto (readsAt l) k).length + (l.length - k1) ≤ 2000000000 := by
    have h1 := upto_len (readsAt_len l) k
    have h2 : k * l.length ≤ 40000 * 40000 := Nat.mul_le_mul (by omega) hl
    omega
   rw [hk1] at hat hup
   have HUP := Lib.hid hup
   have HAT := Lib.hid hat
   have HK1 := Lib.hid hk1
   have hnf : ∀ W,NmJ w w.heap.size (upto (readsAt l) k) W → Calls Tryz.prog 237 #[.slice a l.length cap,.int .i64 (k1 : Int),.func (.func 235) #[] #[.pointer (some ⟨w.heap.size,0,none⟩)]] W fun e w' => e = .returned (.tuple #[]) ∧ NmJ w w.heap.size (upto (readsAt l) k ++ (fromL l k1).map (·.1)) w' := fun W hW => by
    have := namesFrom_any 235 #[.pointer (some ⟨w.heap.size,0,none⟩)] (.slice a l.length cap) l k1 (l.length - k1) W (ReadJ w w.heap.size (upto (readsAt l) k)) (fun _ _ => true) (reads_teller w _ l w.heap.size _ _ HH.out hpl) (by omega) (by omega) HZ.out [] (by unfold ReadJ; rw [List.map_nil,List.append_nil]; exact hW) (by simp)
    rw [told_all,List.nil_append] at this
    exact this
   have HNF := Lib.hid hnf
   clear hra hb hat hup hk1 hpl hnf
   cases b
   ·go_wp2_with (go_at_call 236; (with_reducible refine HRA.out.mono ?_); rintro e w2 ⟨rfl,hb2⟩)
    go_roundg g
    case measure => exact Nat.lt_succ_self _
    case rel =>
     refine ⟨k1,rfl,by have := HK1.out; omega,?_⟩
     rw [HUP.out,HAT.out,if_neg (by decide),List.append_nil]
     exact HJ.out.step hb2
   ·go_wp2_with (first
     | (go_at_call 236; (with_reducible refine HRA.out.mono ?_); rintro e w2 ⟨rfl,hb2⟩; have HJ2 := Lib.hid (HJ.out.step hb2); clear hb2)
     | (go_at_call 237; (with_reducible refine (HNF.out _ HJ2.out).mono ?_); rintro e w3 ⟨rfl,hJ3⟩; have HJ3 := Lib.hid hJ3; clear hJ3))
    go_roundg g
    case measure => exact Nat.lt_succ_self _
    case rel =>
     refine ⟨k1,rfl,by have := HK1.out; omega,?_⟩
     rw [HUP.out,HAT.out]
     simp only [if_true]
     exact HJ3.out
end Go.Proofs.YtjmmninopagpjaaGreatDoor
