/- A store of two rings: which blocks stand where, what a step makes of it. No program; no condition. -/
import Derived.Test.YtfilmbeoggmglaaSlm
namespace Go.Proofs.Ytfilmbeoggmglaa.SL
open Go.ChangeShapes Go.WideShapes Go.ChangeAt Go.RowKit Go.Maps Go.ChangeMaps
set_option maxRecDepth 100000
set_option linter.unusedVariables false
set_option linter.unusedSimpArgs false

def en (F : Nat → Nd) (L : List Nat) : List En := L.map fun b => ((F b).k, (F b).z)
theorem en_congr {F F' : Nat → Nd} {L : List Nat} (h : ∀ b ∈ L, (F' b).k = (F b).k ∧ (F' b).z = (F b).z) : en F' L = en F L := by
  unfold en
  exact List.map_congr_left fun b hb => by rw [(h b hb).1, (h b hb).2]
theorem drop_path (e : Nat) (L : List Nat) : (e :: (L ++ [e])).dropLast = e :: L := by rw [← List.cons_append, List.dropLast_concat]
/-- two rings that lie apart -/
structure GG (s0 s1 : Int) (e0 e1 : Nat) (T K : List Nat) (F : Nat → Nd) : Prop where
  l0 : Lnk F (e0 :: (T ++ [e0]))
  l1 : Lnk F (e1 :: (K ++ [e1]))
  n0 : (e0 :: T).Nodup
  n1 : (e1 :: K).Nodup
  ap : ∀ b, (b = e0 ∨ b ∈ T) → ¬ (b = e1 ∨ b ∈ K)
  z0 : (F e0).k = ByteArray.empty ∧ (F e0).z = 0
  z1 : (F e1).k = ByteArray.empty ∧ (F e1).z = 0
  sg0 : ∀ b ∈ T, (F b).s = s0
  sg1 : ∀ b ∈ K, (F b).s = s1
  pos : ∀ b, b ∈ T ∨ b ∈ K → 1 ≤ (F b).z
  uq : ∀ b c, (b ∈ T ∨ b ∈ K) → (c ∈ T ∨ c ∈ K) → (F b).k = (F c).k → b = c
section
variable {s0 s1 : Int} {e0 e1 : Nat} {T K : List Nat} {F : Nat → Nd}
theorem GG.swap (h : GG s0 s1 e0 e1 T K F) : GG s1 s0 e1 e0 K T F :=
  ⟨h.l1, h.l0, h.n1, h.n0, fun b hb hc => h.ap b hc hb, h.z1, h.z0, h.sg1, h.sg0, fun b hb => h.pos b hb.symm, fun b c hb hc => h.uq b c hb.symm hc.symm⟩
/-- what is not in the rings makes no difference -/
theorem GG.other {F' : Nat → Nd} (h : GG s0 s1 e0 e1 T K F) (hF : ∀ b, b = e0 ∨ b = e1 ∨ b ∈ T ∨ b ∈ K → F' b = F b) : GG s0 s1 e0 e1 T K F' := by
  have hT : ∀ b ∈ T, F' b = F b := fun b hb => hF b (.inr (.inr (.inl hb)))
  have hK : ∀ b ∈ K, F' b = F b := fun b hb => hF b (.inr (.inr (.inr hb)))
  have h0 := hF e0 (.inl rfl)
  have h1 := hF e1 (.inr (.inl rfl))
  have both : ∀ b, b ∈ T ∨ b ∈ K → F' b = F b := fun b hb => hb.elim (hT b) (hK b)
  refine ⟨Lnk.congr _ (fun x hx => ?_) (fun x hx => ?_) h.l0, Lnk.congr _ (fun x hx => ?_) (fun x hx => ?_) h.l1, h.n0, h.n1, h.ap, by rw [h0]; exact h.z0, by rw [h1]; exact h.z1, fun b hb => by rw [hT b hb]; exact h.sg0 b hb, fun b hb => by rw [hK b hb]; exact h.sg1 b hb, fun b hb => by rw [both b hb]; exact h.pos b hb, fun b c hb hc => by rw [both b hb, both c hc]; exact h.uq b c hb hc⟩
  · have : x ∈ e0 :: T := by rw [drop_path] at hx; exact hx
    rcases List.mem_cons.1 this with rfl | hx
    · rw [h0]
    · rw [hT x hx]
  · have : x ∈ T ∨ x = e0 := by simpa using hx
    rcases this with hx | rfl
    · rw [hT x hx]
    · rw [h0]
  · have : x ∈ e1 :: K := by rw [drop_path] at hx; exact hx
    rcases List.mem_cons.1 this with rfl | hx
    · rw [h1]
    · rw [hK x hx]
  · have : x ∈ K ∨ x = e1 := by simpa using hx
    rcases this with hx | rfl
    · rw [hK x hx]
    · rw [h1]
theorem filter_one (L1 L2 : List Nat) (b : Nat) (h : (L1 ++ b :: L2).Nodup) : (L1 ++ b :: L2).filter (fun x => decide (x ≠ b)) = L1 ++ L2 := by
  obtain ⟨n1, n2, n3⟩ := List.nodup_append.1 h
  rw [List.filter_append, List.filter_cons]
  have a1 : L1.filter (fun x => decide (x ≠ b)) = L1 := List.filter_eq_self.2 fun x hx => by simp; exact n3 x hx b (by simp)
  have a2 : L2.filter (fun x => decide (x ≠ b)) = L2 := List.filter_eq_self.2 fun x hx => by simp; rintro rfl; exact (List.nodup_cons.1 n2).1 hx
  rw [a1, a2]; simp
theorem filter_none {L : List Nat} {b : Nat} (h : b ∉ L) : L.filter (fun x => decide (x ≠ b)) = L := List.filter_eq_self.2 fun x hx => by simp; rintro rfl; exact h hx
/-- b has left the first ring -/
theorem GG.leave (h : GG s0 s1 e0 e1 T K F) {b : Nat} (hb : b ∈ T) : ∃ a c, (F b).nw = some a ∧ (F b).od = some c ∧ (a = e0 ∨ a ∈ T) ∧ (c = e0 ∨ c ∈ T) ∧ a ≠ b ∧ c ≠ b ∧ GG s0 s1 e0 e1 (T.filter fun x => decide (x ≠ b)) K (levF F a c) := by
  obtain ⟨a, c, L1, L2, A, B, hA⟩ := ring_at h.l0 hb
  obtain ⟨ma, mc⟩ := hA.mem
  obtain ⟨na, nc⟩ := hA.ne h.n0
  have hl := ring_leave h.l0 h.n0 hA
  have hT : T.filter (fun x => decide (x ≠ b)) = L1 ++ L2 := by rw [hA.eq]; exact filter_one L1 L2 b (by rw [← hA.eq]; exact (List.nodup_cons.1 h.n0).2)
  refine ⟨a, c, hA.nw, hA.od, ma, mc, na, nc, ?_⟩
  have hsub : ∀ x, x ∈ T.filter (fun x => decide (x ≠ b)) → x ∈ T := fun x hx => (List.mem_filter.1 hx).1
  have aK := h.ap a ma
  have cK := h.ap c mc
  refine ⟨by rw [hT]; exact hl, Lnk.congr _ (fun x hx => ?_) (fun x hx => ?_) h.l1, ?_, h.n1, fun x hx => h.ap x (hx.imp_right (hsub x)), ?_, ?_, fun x hx => ?_, fun x hx => ?_, fun x hx => ?_, fun x y hx hy => ?_⟩
  · have : x ∈ e1 :: K := by rw [drop_path] at hx; exact hx
    rw [levF_od, if_neg (fun e => aK (by rw [← e]; simpa using this))]
  · have : x = e1 ∨ x ∈ K := by have := (show x ∈ K ∨ x = e1 by simpa using hx); exact this.symm
    rw [levF_nw, if_neg (fun e => cK (by rw [← e]; exact this))]
  · have := h.n0
    rw [List.nodup_cons] at this ⊢
    exact ⟨fun hx => this.1 (hsub _ hx), this.2.filter _⟩
  · rw [(levF_k F a c e0).1, (levF_k F a c e0).2.1]; exact h.z0
  · rw [(levF_k F a c e1).1, (levF_k F a c e1).2.1]; exact h.z1
  · rw [(levF_k F a c x).2.2]; exact h.sg0 x (hsub x hx)
  · rw [(levF_k F a c x).2.2]; exact h.sg1 x hx
  · rw [(levF_k F a c x).2.1]; exact h.pos x (hx.imp_left (hsub x))
  · rw [(levF_k F a c x).1, (levF_k F a c y).1]; exact h.uq x y (hx.imp_left (hsub x)) (hy.imp_left (hsub y))
/-- p has entered the first ring -/
theorem GG.enter (h : GG s0 s1 e0 e1 T K F) {p : Nat} (hp : ¬ (p = e0 ∨ p = e1 ∨ p ∈ T ∨ p ∈ K)) (hs : (F p).s = s0) (hz : 1 ≤ (F p).z) (hk : ∀ b, b ∈ T ∨ b ∈ K → (F b).k ≠ (F p).k) :
    ∃ a, (F e0).od = some a ∧ (a = e0 ∨ a ∈ T) ∧ a ≠ p ∧ GG s0 s1 e0 e1 (p :: T) K (entF F e0 a p) := by
  obtain ⟨a, A, c, C, h1, h2, _, _⟩ := ring_ends h.l0
  have ma : a = e0 ∨ a ∈ T := by
    have : a ∈ T ++ [e0] := by rw [h1]; simp
    have := (show a ∈ T ∨ a = e0 by simpa using this); exact this.symm
  have hpT : p ∉ e0 :: T := fun hx => hp (by rcases List.mem_cons.1 hx with h | h <;> simp [h])
  have hpe : p ≠ e0 := fun e => hp (.inl e)
  have hap : a ≠ p := by
    rintro rfl
    exact hp (ma.elim .inl fun h => .inr (.inr (.inl h)))
  have aK := h.ap a ma
  have hkk : ∀ x, (entF F e0 a p x).k = (F x).k := fun x => (entF_k F e0 a p x).1
  have hzz : ∀ x, (entF F e0 a p x).z = (F x).z := fun x => (entF_k F e0 a p x).2.1
  have hss : ∀ x, (entF F e0 a p x).s = (F x).s := fun x => (entF_k F e0 a p x).2.2
  refine ⟨a, h2, ma, hap, ⟨ring_enter h.l0 h.n0 h1 hpT, Lnk.congr _ (fun x hx => ?_) (fun x hx => ?_) h.l1, ?_, h.n1, fun x hx => ?_, ?_, ?_, fun x hx => ?_, fun x hx => ?_, fun x hx => ?_, fun x y hx hy => ?_⟩⟩
  · have : x = e1 ∨ x ∈ K := by
      have : x ∈ e1 :: K := by rw [drop_path] at hx; exact hx
      simpa using this
    rw [entF_od, if_neg (fun e => h.ap e0 (.inl rfl) (by rw [← e]; exact this)), if_neg (fun e => hp (by rw [← e]; rcases this with h | h <;> simp [h]))]
  · have : x = e1 ∨ x ∈ K := by have := (show x ∈ K ∨ x = e1 by simpa using hx); exact this.symm
    rw [entF_nw, if_neg (fun e => aK (by rw [← e]; exact this)), if_neg (fun e => hp (by rw [← e]; rcases this with h | h <;> simp [h]))]
  · have := h.n0
    rw [List.nodup_cons] at this ⊢
    refine ⟨fun hx => ?_, List.nodup_cons.2 ⟨fun hx => hpT (by simp [hx]), this.2⟩⟩
    rcases List.mem_cons.1 hx with hx | hx
    · exact hpe hx.symm
    · exact this.1 hx
  · rcases hx with rfl | hx
    · exact h.ap x (.inl rfl)
    · rcases List.mem_cons.1 hx with rfl | hx
      · exact fun hy => hp (by rcases hy with h | h <;> simp [h])
      · exact h.ap x (.inr hx)
  · rw [hkk, hzz]; exact h.z0
  · rw [hkk, hzz]; exact h.z1
  · rw [hss]
    rcases List.mem_cons.1 hx with rfl | hx
    · exact hs
    · exact h.sg0 x hx
  · rw [hss]; exact h.sg1 x hx
  · rw [hzz]
    rcases hx with hx | hx
    · rcases List.mem_cons.1 hx with rfl | hx
      · exact hz
      · exact h.pos x (.inl hx)
    · exact h.pos x (.inr hx)
  · rw [hkk, hkk]
    have cs : ∀ z, (z ∈ p :: T ∨ z ∈ K) → z = p ∨ (z ∈ T ∨ z ∈ K) := fun z hz => by
      rcases hz with hz | hz
      · rcases List.mem_cons.1 hz with rfl | hz
        · exact .inl rfl
        · exact .inr (.inl hz)
      · exact .inr (.inr hz)
    intro he
    rcases cs x hx with hx | hx
    · rcases cs y hy with hy | hy
      · rw [hx, hy]
      · rw [hx] at he; exact absurd he.symm (hk y hy)
    · rcases cs y hy with hy | hy
      · rw [hy] at he; exact absurd he (hk x hx)
      · exact h.uq x y hx hy he
theorem en_lev (a c : Nat) (L : List Nat) : en (levF F a c) L = en F L := en_congr fun b _ => ⟨(levF_k F a c b).1, (levF_k F a c b).2.1⟩
theorem en_ent (e a p : Nat) (L : List Nat) : en (entF F e a p) L = en F L := en_congr fun b _ => ⟨(entF_k F e a p b).1, (entF_k F e a p b).2.1⟩
theorem en_upS (p : Nat) (s : Int) (L : List Nat) : en (upS F p s) L = en F L := en_congr fun b _ => ⟨(upS_k F p b s).1, (upS_k F p b s).2.1⟩
theorem en_upA {p : Nat} (q : Nd) {L : List Nat} (h : p ∉ L) : en (upA F p q) L = en F L := en_congr fun b hb => by
  unfold upA
  rw [if_neg (fun e => h (by rw [← e]; exact hb))]; exact ⟨rfl, rfl⟩
/-- leaving a block out is leaving its key out -/
theorem en_del {L : List Nat} {b : Nat} (h : ∀ c ∈ L, (F c).k = (F b).k → c = b) : en F (L.filter fun x => decide (x ≠ b)) = delE (F b).k (en F L) := by
  unfold en delE
  rw [List.filter_map]
  congr 1
  refine List.filter_congr fun x hx => ?_
  simp only [Function.comp]
  rw [Bool.eq_iff_iff, decide_eq_true_iff, decide_eq_true_iff]
  exact ⟨fun h1 h2 => h1 (h x hx h2), fun h1 h2 => h1 (by rw [h2])⟩
theorem del_none {k : ByteArray} {l : List En} (h : ∀ x ∈ l, x.1 ≠ k) : delE k l = l := List.filter_eq_self.2 fun x hx => by simpa using h x hx
theorem sum_pos : ∀ {l : List En}, (∀ x ∈ l, 1 ≤ x.2) → (l.length : Int) ≤ sumE l
  | [], _ => by simp [sumE]
  | x :: l, h => by
    have h1 := sum_pos (l := l) fun y hy => h y (by simp [hy])
    have h2 := h x (by simp)
    rw [sumE, List.length_cons]; omega
theorem GG.en_pos (h : GG s0 s1 e0 e1 T K F) : (∀ x ∈ en F T, 1 ≤ x.2) ∧ ∀ x ∈ en F K, 1 ≤ x.2 := by
  constructor
  · intro x hx
    obtain ⟨b, hb, rfl⟩ := List.mem_map.1 hx
    exact h.pos b (.inl hb)
  · intro x hx
    obtain ⟨b, hb, rfl⟩ := List.mem_map.1 hx
    exact h.pos b (.inr hb)
end
theorem sum_nonneg {l : List En} (h : ∀ x ∈ l, 1 ≤ x.2) : 0 ≤ sumE l := by have := sum_pos h; omega
theorem sum_mem : ∀ {l : List En}, (∀ x ∈ l, 1 ≤ x.2) → ∀ x ∈ l, x.2 ≤ sumE l
  | y :: l, h, x, hx => by
    have h1 := sum_nonneg (l := l) fun z hz => h z (by simp [hz])
    have h2 := h y (by simp)
    rw [sumE]
    rcases List.mem_cons.1 hx with rfl | hx
    · omega
    · have := sum_mem (fun z hz => h z (by simp [hz])) x hx; omega
/-- which blocks, which rings, which map -/
structure Sx where
  e0 : Nat
  e1 : Nat
  mb : Nat
  T : List Nat
  K : List Nat
  F : Nat → Nd
  f : ByteArray → Option Nat
def Sx.nd (x : Sx) (b : Nat) : Prop := b = x.e0 ∨ b = x.e1 ∨ b ∈ x.T ∨ b ∈ x.K
def Sx.own (x : Sx) (g b : Nat) : Prop := b = g ∨ b = x.mb ∨ x.nd b
def Sx.tE (x : Sx) : List En := en x.F x.T
def Sx.kE (x : Sx) : List En := en x.F x.K
def Lk (f : ByteArray → Option Nat) (T K : List Nat) (F : Nat → Nd) : Prop := ∀ k b, f k = some b ↔ (b ∈ T ∨ b ∈ K) ∧ (F b).k = k
abbrev cel (g : Nat) (al ke mo : Int) (e0 e1 mb : Nat) (t k : Int) : Array Value := #[ptr g, .int .i64 al, .int .i64 ke, .int .i64 mo, ptr e0, .int .i64 t, ptr e1, .int .i64 k, .map (some mb)]
/-- a store of package slru: its budgets, its blocks -/
structure St (w : World) (g n : Nat) (al ke mo : Int) (x : Sx) : Prop where
  bk : Bk w g 82 (cel g al ke mo x.e0 x.e1 x.mb (sumE x.tE) (sumE x.kE))
  nn : NN w x.nd x.F
  gg : GG 0 1 x.e0 x.e1 x.T x.K x.F
  mp : MapP w x.mb n x.f
  lk : Lk x.f x.T x.K x.F
  lim : sumE x.tE + sumE x.kE ≤ 1073741824
  cnt : n ≤ 1099511627776
theorem ty_sp : (82 : TypeId) ≠ 92 := by decide
theorem St.ng {w : World} {g n : Nat} {al ke mo : Int} {x : Sx} (h : St w g n al ke mo x) : ¬ x.nd g := fun hg => (h.bk.ne_ (h.nn g hg) ty_sp) rfl
theorem St.nm {w : World} {g n : Nat} {al ke mo : Int} {x : Sx} (h : St w g n al ke mo x) : ¬ x.nd x.mb ∧ g ≠ x.mb := ⟨fun hg => bk_nomap (h.nn _ hg) h.mp rfl, bk_nomap h.bk h.mp⟩
theorem St.keep {w w' : World} {g n : Nat} {al ke mo : Int} {x : Sx} (h : St w g n al ke mo x) (hk : ∀ b, x.own g b → w'.heap[b]? = w.heap[b]?) : St w' g n al ke mo x :=
  ⟨h.bk.heap (hk g (.inl rfl)), h.nn.heap fun b hb => hk b (.inr (.inr hb)), h.gg, h.mp.keep (hk _ (.inr (.inl rfl))), h.lk, h.lim, h.cnt⟩
theorem St.lt {w : World} {g n : Nat} {al ke mo : Int} {x : Sx} (h : St w g n al ke mo x) {b : Nat} (hb : x.own g b) : b < w.heap.size := by
  rcases hb with rfl | rfl | hb
  · exact h.bk.lt
  · exact h.mp.lt
  · exact (h.nn b hb).lt
theorem St.below {w w' : World} {g n : Nat} {al ke mo : Int} {x : Sx} (h : St w g n al ke mo x) (hb : Below w.heap.size w w') : St w' g n al ke mo x := h.keep fun b ho => hb.block b (h.lt ho)
theorem St.chg {S : Nat → Prop} {w w' : World} {g n : Nat} {al ke mo : Int} {x : Sx} (h : St w g n al ke mo x) (hc : Chg S w w') (hs : ∀ b, x.own g b → ¬ S b) : St w' g n al ke mo x := h.keep fun b ho => hc.block b (h.lt ho) (hs b ho)
end Go.Proofs.Ytfilmbeoggmglaa.SL
