/- What package slru's move does to a store. No condition but what a store is. -/
import Derived.Test.YtjngangojgjceaaGreatG3
set_option linter.unusedSimpArgs false
set_option linter.unusedVariables false
namespace Go.Proofs.YtjngangojgjceaaGreat.SL
open Go.ChangeShapes Go.WideShapes Go.ChangeAt Go.RowKit Go.Maps Go.ChangeMaps
set_option maxRecDepth 100000
set_option linter.unusedVariables false
set_option linter.unusedSimpArgs false

/-- nothing is told -/
def RetP (P : World → Prop) (e : Ending) (w' : World) : Prop := e = .returned (.tuple #[]) ∧ P w'
/-- a store beside which block p stands in no ring -/
structure Md (w : World) (g : Nat) (al ke mo : Int) (x : Sx) (p : Nat) : Prop where
  bk : Bk w g 124 (cel g al ke mo x.e0 x.e1 x.mb (sumE x.tE) (sumE x.kE))
  nn : NN w (fun b => x.nd b ∨ b = p) x.F
  gg : GG 0 1 x.e0 x.e1 x.T x.K x.F
  fr : ¬ x.nd p
  z : 1 ≤ (x.F p).z
  key : ∀ b, b ∈ x.T ∨ b ∈ x.K → (x.F b).k ≠ (x.F p).k
  lim : sumE x.tE + sumE x.kE + (x.F p).z ≤ 1073741824
theorem Md.ng {w : World} {g : Nat} {al ke mo : Int} {x : Sx} {p : Nat} (h : Md w g al ke mo x p) : ¬ (x.nd g ∨ g = p) := fun hg => (h.bk.ne_ (h.nn g hg) ty_sp) rfl
def EnPT (g : Nat) (al ke mo : Int) (x : Sx) (p : Nat) (w : World) (e : Ending) (w' : World) : Prop :=
  e = .returned (.tuple #[]) ∧ ∃ F', NN w' (fun b => x.nd b ∨ b = p) F' ∧ GG 0 1 x.e0 x.e1 (p :: x.T) x.K F' ∧ (∀ b, (F' b).k = (x.F b).k ∧ (F' b).z = (x.F b).z) ∧ Bk w' g 124 (cel g al ke mo x.e0 x.e1 x.mb (sumE x.tE + (x.F p).z) (sumE x.kE)) ∧ Chg (fun k => k = g ∨ x.nd k ∨ k = p) w w' ∧ w'.heap.size = w.heap.size
theorem ent_T (w : World) (g : Nat) (al ke mo : Int) (x : Sx) (p : Nat) (h : Md w g al ke mo x p) (hs : (x.F p).s = 0) :
    Calls Tryz.prog 103 #[.pointer (some ⟨g, 4, none⟩), ptr p] w (EnPT g al ke mo x p w) := by
  obtain ⟨a, h1, h2, h3, h4⟩ := h.gg.enter h.fr hs h.z h.key
  have hnd : x.nd a := (h2.elim (fun e => .inl e) fun e => .inr (.inr (.inl e)))
  have hne : x.nd x.e0 := (.inl rfl)
  have hpe : x.e0 ≠ p := fun e => h.fr (by rw [← e]; exact hne)
  have hlim := h.lim
  have hs0 := sum_nonneg h.gg.en_pos.1
  have hs1 := sum_nonneg h.gg.en_pos.2
  have hz := h.z
  have e1 : sumE x.tE = sumE (en x.F x.T) := rfl
  have e2 : sumE x.kE = sumE (en x.F x.K) := rfl
  refine (enter_any w g 4 x.e0 a p (sumE x.tE) _ x.F _ h.bk rfl rfl h.nn h.ng (.inl hne) (.inl hnd) (.inr rfl) h1 hpe h3 ⟨by omega, by omega, by omega⟩).mono ?_
  rintro e w' ⟨r1, r2, r3, r4, r5⟩
  exact ⟨r1, _, r2, h4, fun b => ⟨(entF_k x.F x.e0 a p b).1, (entF_k x.F x.e0 a p b).2.1⟩, r3, r4, r5⟩
def EnPK (g : Nat) (al ke mo : Int) (x : Sx) (p : Nat) (w : World) (e : Ending) (w' : World) : Prop :=
  e = .returned (.tuple #[]) ∧ ∃ F', NN w' (fun b => x.nd b ∨ b = p) F' ∧ GG 0 1 x.e0 x.e1 x.T (p :: x.K) F' ∧ (∀ b, (F' b).k = (x.F b).k ∧ (F' b).z = (x.F b).z) ∧ Bk w' g 124 (cel g al ke mo x.e0 x.e1 x.mb (sumE x.tE) (sumE x.kE + (x.F p).z)) ∧ Chg (fun k => k = g ∨ x.nd k ∨ k = p) w w' ∧ w'.heap.size = w.heap.size
theorem ent_K (w : World) (g : Nat) (al ke mo : Int) (x : Sx) (p : Nat) (h : Md w g al ke mo x p) (hs : (x.F p).s = 1) :
    Calls Tryz.prog 103 #[.pointer (some ⟨g, 6, none⟩), ptr p] w (EnPK g al ke mo x p w) := by
  obtain ⟨a, h1, h2, h3, h4⟩ := h.gg.swap.enter (fun e => h.fr (by rcases e with e | e | e | e; exact .inr (.inl e); exact .inl e; exact .inr (.inr (.inr e)); exact .inr (.inr (.inl e)))) hs h.z (fun b hb => h.key b hb.symm)
  have hnd : x.nd a := (h2.elim (fun e => .inr (.inl e)) fun e => .inr (.inr (.inr e)))
  have hne : x.nd x.e1 := (.inr (.inl rfl))
  have hpe : x.e1 ≠ p := fun e => h.fr (by rw [← e]; exact hne)
  have hlim := h.lim
  have hs0 := sum_nonneg h.gg.en_pos.1
  have hs1 := sum_nonneg h.gg.en_pos.2
  have hz := h.z
  have e1 : sumE x.tE = sumE (en x.F x.T) := rfl
  have e2 : sumE x.kE = sumE (en x.F x.K) := rfl
  refine (enter_any w g 6 x.e1 a p (sumE x.kE) _ x.F _ h.bk rfl rfl h.nn h.ng (.inl hne) (.inl hnd) (.inr rfl) h1 hpe h3 ⟨by omega, by omega, by omega⟩).mono ?_
  rintro e w' ⟨r1, r2, r3, r4, r5⟩
  exact ⟨r1, _, r2, h4.swap, fun b => ⟨(entF_k x.F x.e1 a p b).1, (entF_k x.F x.e1 a p b).2.1⟩, r3, r4, r5⟩
theorem St.map_ {w w' : World} {g n : Nat} {al ke mo : Int} {x : Sx} (h : St w g n al ke mo x) {S : Nat → Prop} (hC : Chg S w w') (hs : ∀ b, S b → b = g ∨ x.nd b) : MapP w' x.mb n x.f :=
  h.mp.keep (hC.block x.mb h.mp.lt (fun e => (hs _ e).elim (fun e => h.nm.2 e.symm) h.nm.1))
set_option maxHeartbeats 2000000 in
theorem move_TT (w : World) (g n : Nat) (al ke mo : Int) (x : Sx) (h : St w g n al ke mo x) (p : Nat) (hb : p ∈ x.T) :
    Calls Tryz.prog 85 #[ptr g, ptr p, .int .i64 0] w (RetP fun w' => StepP g n al ke mo x (((x.F p).k, (x.F p).z) :: delE (x.F p).k x.tE) (delE (x.F p).k x.kE) (x.own g) w w' ∧ w'.cell? ⟨p, 0, none⟩ = some (.string (x.F p).k)) := by
  have hf : x.f (x.F p).k = some p := (h.lk _ _).2 ⟨.inl hb, rfl⟩
  obtain ⟨a, c, h1, h2, ha, hc, h3, h4, h5, hgg, e1, e2, e3, hbK⟩ := h.leaveT hf hb
  have hnb : x.nd p := .inr (.inr (.inl hb))
  have HLV := Lib.hid (fun (W : World) (hW : Sm w W) => lvT_any w W hW g n al ke mo x h p a c hnb h1 h2 ha hc h3 h4 h5)
  obtain ⟨_, _, c2, _, _⟩ := h.node hnb
  have hs : (x.F p).s = 0 := h.gg.sg0 p hb
  rw [hs] at c2
  have hpe0 : p ≠ x.e0 := fun e => (List.nodup_cons.1 h.gg.n0).1 (by rw [← e]; exact hb)
  have hpe1 : p ≠ x.e1 := fun e => h.gg.ap p (.inr hb) (.inl e)
  have hnot : ∀ y, (y = x.e0 ∨ y = x.e1 ∨ y ∈ (x.T.filter fun y => decide (y ≠ p)) ∨ y ∈ x.K) → y ≠ p := by
    rintro y hy rfl
    rcases hy with hy | hy | hy | hy
    · exact hpe0 hy
    · exact hpe1 hy
    · exact (filter_in hy).2 rfl
    · exact hbK hy
  have ek : delE (x.F p).k x.kE = x.kE := by rw [← e2, en_lev]; rfl
  have hMd : ∀ w1, NN w1 x.nd (levF x.F a c) → Bk w1 g 124 ((cel g al ke mo x.e0 x.e1 x.mb (sumE x.tE) (sumE x.kE)).setIfInBounds 5 (.int .i64 (sumE x.tE - (x.F p).z))) →
      Md (w1.setCell ⟨p, 2, none⟩ (.int .i64 0)) g al ke mo ⟨x.e0, x.e1, x.mb, (x.T.filter fun y => decide (y ≠ p)), x.K, upS (levF x.F a c) p 0, x.f⟩ p := by
    intro w1 hn1 hg1
    have hpz : (upS (levF x.F a c) p 0 p).z = (x.F p).z := by rw [(upS_k _ _ _ _).2.1, (levF_k _ _ _ _).2.1]
    have hpk : ∀ y, (upS (levF x.F a c) p 0 y).k = (x.F y).k := fun y => by rw [(upS_k _ _ _ _).1, (levF_k _ _ _ _).1]
    have he : ∀ L, en (upS (levF x.F a c) p 0) L = en (levF x.F a c) L := fun L => en_upS p 0 L
    refine ⟨?_, ?_, ?_, ?_, ?_, ?_, ?_⟩
    · show Bk _ g _ (cel g al ke mo x.e0 x.e1 x.mb (sumE (en (upS (levF x.F a c) p 0) (x.T.filter fun y => decide (y ≠ p)))) (sumE (en (upS (levF x.F a c) p 0) x.K)))
      rw [he, he, e1, e2, ek, e3]
      exact hg1.far (p := ⟨p, 2, none⟩) (fun e => h.ng (by rw [e]; exact hnb)) _
    · intro y hy
      refine (hn1.upS p 0) y ?_
      rcases hy with hy | hy
      · rcases hy with hy | hy | hy | hy
        · exact .inl hy
        · exact .inr (.inl hy)
        · exact .inr (.inr (.inl (filter_in hy).1))
        · exact .inr (.inr (.inr hy))
      · rw [hy]; exact hnb
    · refine hgg.other fun y hy => ?_
      show upS (levF x.F a c) p 0 y = levF x.F a c y
      unfold upS
      rw [if_neg (hnot y hy)]
    · exact fun hy => hnot p hy rfl
    · show 1 ≤ (upS (levF x.F a c) p 0 p).z
      rw [hpz]; exact h.gg.pos p (.inl hb)
    · intro y hy
      show (upS (levF x.F a c) p 0 y).k ≠ (upS (levF x.F a c) p 0 p).k
      rw [hpk, hpk]
      intro e
      refine hnot y (.inr (.inr hy)) (h.gg.uq y p ?_ (.inl hb) e)
      exact hy.imp_left fun e => (filter_in e).1
    · show sumE (en (upS (levF x.F a c) p 0) (x.T.filter fun y => decide (y ≠ p))) + sumE (en (upS (levF x.F a c) p 0) x.K) + (upS (levF x.F a c) p 0 p).z ≤ 1073741824
      rw [he, he, e1, e2, ek, e3, hpz]
      have := h.lim
      omega
  have HMD := Lib.hid hMd
  have HEND := Lib.hid (fun (w1 w2 : World) (hc1 : Chg (fun k => k = g ∨ x.nd k) w w1) (hs1 : w1.heap.size = w.heap.size) (e : Ending) (hen : EnPT g al ke mo ⟨x.e0, x.e1, x.mb, (x.T.filter fun y => decide (y ≠ p)), x.K, upS (levF x.F a c) p 0, x.f⟩ p (w1.setCell ⟨p, 2, none⟩ (.int .i64 0)) e w2) => (show StepP g n al ke mo x (((x.F p).k, (x.F p).z) :: delE (x.F p).k x.tE) (delE (x.F p).k x.kE) (x.own g) w w2 ∧ w2.cell? ⟨p, 0, none⟩ = some (.string (x.F p).k) by
    obtain ⟨_, F', q1, q2, q3, q4, q5, q6⟩ := hen
    have hsub : ∀ y, (y = x.e0 ∨ y = x.e1 ∨ y ∈ (x.T.filter fun y => decide (y ≠ p)) ∨ y ∈ x.K) ∨ y = p → x.nd y := fun y hy => by
      rcases hy with hy | hy
      · rcases hy with hy | hy | hy | hy
        · exact .inl hy
        · exact .inr (.inl hy)
        · exact .inr (.inr (.inl (filter_in hy).1))
        · exact .inr (.inr (.inr hy))
      · rw [hy]; exact hnb
    have hC : Chg (fun k => k = g ∨ x.nd k) w w2 := (hc1.setCell (p := ⟨p, 2, none⟩) (Or.inr hnb) _).trans (q5.mono fun k _ hk => hk.imp_right fun e => hsub k (e.elim .inl .inr))
    have hkk : ∀ y, (F' y).k = (x.F y).k := fun y => by rw [(q3 y).1]; exact (upS_k _ _ _ _).1.trans (levF_k _ _ _ _).1
    have hzz : ∀ y, (F' y).z = (x.F y).z := fun y => by rw [(q3 y).2]; exact (upS_k _ _ _ _).2.1.trans (levF_k _ _ _ _).2.1
    have hen2 : ∀ L, en F' L = en (levF x.F a c) L := fun L => en_congr fun y _ => ⟨by rw [hkk, (levF_k _ _ _ _).1], by rw [hzz, (levF_k _ _ _ _).2.1]⟩
    have hT : en F' (p :: (x.T.filter fun y => decide (y ≠ p))) = ((x.F p).k, (x.F p).z) :: delE (x.F p).k x.tE := by show ((F' p).k, (F' p).z) :: en F' (x.T.filter fun y => decide (y ≠ p)) = _; rw [hen2, e1, hkk, hzz]
    have hK : en F' x.K = delE (x.F p).k x.kE := by rw [hen2, e2]
    have hcell : w2.cell? ⟨p, 0, none⟩ = some (.string (x.F p).k) := by rw [← hkk p]; exact (q1 p (.inr rfl)).cell 0
    refine ⟨?_, hcell⟩
    refine ⟨⟨x.e0, x.e1, x.mb, (p :: (x.T.filter fun y => decide (y ≠ p))), x.K, F', x.f⟩, ⟨?_, ?_, q2, h.map_ hC fun _ e => e, ?_, ?_, h.cnt⟩, hT, hK, fun y hy => ?_, hC.mono fun k _ hk => hk.elim .inl fun e => .inr (.inr e), by rw [q6]; simpa [World.setCell] using hs1⟩
    · show Bk w2 g _ (cel g al ke mo x.e0 x.e1 x.mb (sumE (en F' (p :: (x.T.filter fun y => decide (y ≠ p))))) (sumE (en F' x.K)))
      have hb2 : Bk w2 g 124 (cel g al ke mo x.e0 x.e1 x.mb (sumE (en (upS (levF x.F a c) p 0) (x.T.filter fun y => decide (y ≠ p))) + (upS (levF x.F a c) p 0 p).z) (sumE (en (upS (levF x.F a c) p 0) x.K))) := q4
      have he : ∀ L, en (upS (levF x.F a c) p 0) L = en (levF x.F a c) L := fun L => en_upS p 0 L
      have hpz : (upS (levF x.F a c) p 0 p).z = (x.F p).z := by rw [(upS_k _ _ _ _).2.1, (levF_k _ _ _ _).2.1]
      rw [he, he, hpz, e1, e2] at hb2
      rw [hT, hK]
      have e9 : sumE (((x.F p).k, (x.F p).z) :: delE (x.F p).k x.tE) = sumE (delE (x.F p).k x.tE) + (x.F p).z := by rw [sumE]; exact Int.add_comm _ _
      rw [e9]
      exact hb2
    · intro y hy
      refine q1 y ?_
      rcases hy with hy | hy | hy | hy
      · exact .inl (.inl hy)
      · exact .inl (.inr (.inl hy))
      · rcases List.mem_cons.1 hy with hy | hy
        · exact .inr hy
        · exact .inl (.inr (.inr (.inl hy)))
      · exact .inl (.inr (.inr (.inr hy)))
    · intro q d
      show x.f q = some d ↔ (d ∈ (p :: (x.T.filter fun y => decide (y ≠ p))) ∨ d ∈ x.K) ∧ (F' d).k = q
      rw [hkk, h.lk q d]
      refine ⟨fun ⟨hd, e⟩ => ⟨?_, e⟩, fun ⟨hd, e⟩ => ⟨?_, e⟩⟩
      · by_cases e : d = p; exact .inl (by rw [e]; exact List.mem_cons_self ..); exact hd.imp_left fun h0 => List.mem_cons_of_mem _ (filter_mk h0 e)
      · exact hd.elim (fun e => by rcases List.mem_cons.1 e with e | e; exact .inl (by rw [e]; exact hb); exact .inl (filter_in e).1) .inr
    · show sumE (en F' (p :: (x.T.filter fun y => decide (y ≠ p)))) + sumE (en F' x.K) ≤ 1073741824
      rw [hT, hK]
      have := h.lim
      rw [sumE, ek, e3]; simp only
      omega
    · rcases hy with hy | hy | hy
      · exact .inl hy
      · exact .inr (.inl hy)
      · refine .inr (.inr (hsub y ?_))
        rcases hy with hy | hy | hy | hy
        · exact .inl (.inl hy)
        · exact .inl (.inr (.inl hy))
        · rcases List.mem_cons.1 hy with hy | hy
          · exact .inr hy
          · exact .inl (.inr (.inr (.inl hy)))
        · exact .inl (.inr (.inr (.inr hy)))))
  have HNB := Lib.hid (fun (w1 : World) (hn1 : NN w1 x.nd (levF x.F a c)) => hn1 p hnb)
  clear h hf hb h1 h2 ha hc h3 h4 h5 hgg e1 e2 e3 hbK hnb hs hpe0 hpe1 hnot ek hMd
  go_enter Tryz.func85, Tryz.ntmps85
  go_wp2
  go_region_with (go_at_call 90; refine (HLV.out _ (by exact ⟨rfl, rfl, rfl, rfl⟩)).mono ?_; rintro e w1 ⟨rfl, hn1, hg1, hc1, hs1⟩)
  all_goals
    have hp1 := HNB.out w1 hn1
    have d2 : ∃ v, w1.cell? ⟨p, 2, none⟩ = some v := ⟨_, hp1.cell 2⟩
    obtain ⟨v2, d2⟩ := d2
    have f2 := hp1.frozen 2
    have HEN := Lib.hid (ent_T _ g al ke mo _ p (HMD.out w1 hn1 hg1) (by show (upS (levF x.F a c) p 0 p).s = 0; rw [upS_s, if_pos rfl]))
    have HC1 := Lib.hid hc1
    have HS1 := Lib.hid hs1
    clear hp1 hn1 hg1 hc1 hs1
    go_wp2_with (go_at_call 103; refine HEN.out.mono ?_; intro e w2 hq; have HQ := Lib.hid hq; obtain ⟨rfl, _⟩ := hq)
    refine bodyPost_ret (v := .tuple #[]) (by simp [results, Tryz.results85, go_sem]) rfl ⟨rfl, ?_⟩
    exact HEND.out w1 w2 HC1.out HS1.out _ HQ.out
set_option maxHeartbeats 2000000 in
theorem move_TK (w : World) (g n : Nat) (al ke mo : Int) (x : Sx) (h : St w g n al ke mo x) (p : Nat) (hb : p ∈ x.T) :
    Calls Tryz.prog 85 #[ptr g, ptr p, .int .i64 1] w (RetP fun w' => StepP g n al ke mo x (delE (x.F p).k x.tE) (((x.F p).k, (x.F p).z) :: delE (x.F p).k x.kE) (x.own g) w w' ∧ w'.cell? ⟨p, 0, none⟩ = some (.string (x.F p).k)) := by
  have hf : x.f (x.F p).k = some p := (h.lk _ _).2 ⟨.inl hb, rfl⟩
  obtain ⟨a, c, h1, h2, ha, hc, h3, h4, h5, hgg, e1, e2, e3, hbK⟩ := h.leaveT hf hb
  have hnb : x.nd p := .inr (.inr (.inl hb))
  have HLV := Lib.hid (fun (W : World) (hW : Sm w W) => lvT_any w W hW g n al ke mo x h p a c hnb h1 h2 ha hc h3 h4 h5)
  obtain ⟨_, _, c2, _, _⟩ := h.node hnb
  have hs : (x.F p).s = 0 := h.gg.sg0 p hb
  rw [hs] at c2
  have hpe0 : p ≠ x.e0 := fun e => (List.nodup_cons.1 h.gg.n0).1 (by rw [← e]; exact hb)
  have hpe1 : p ≠ x.e1 := fun e => h.gg.ap p (.inr hb) (.inl e)
  have hnot : ∀ y, (y = x.e0 ∨ y = x.e1 ∨ y ∈ (x.T.filter fun y => decide (y ≠ p)) ∨ y ∈ x.K) → y ≠ p := by
    rintro y hy rfl
    rcases hy with hy | hy | hy | hy
    · exact hpe0 hy
    · exact hpe1 hy
    · exact (filter_in hy).2 rfl
    · exact hbK hy
  have ek : delE (x.F p).k x.kE = x.kE := by rw [← e2, en_lev]; rfl
  have hMd : ∀ w1, NN w1 x.nd (levF x.F a c) → Bk w1 g 124 ((cel g al ke mo x.e0 x.e1 x.mb (sumE x.tE) (sumE x.kE)).setIfInBounds 5 (.int .i64 (sumE x.tE - (x.F p).z))) →
      Md (w1.setCell ⟨p, 2, none⟩ (.int .i64 1)) g al ke mo ⟨x.e0, x.e1, x.mb, (x.T.filter fun y => decide (y ≠ p)), x.K, upS (levF x.F a c) p 1, x.f⟩ p := by
    intro w1 hn1 hg1
    have hpz : (upS (levF x.F a c) p 1 p).z = (x.F p).z := by rw [(upS_k _ _ _ _).2.1, (levF_k _ _ _ _).2.1]
    have hpk : ∀ y, (upS (levF x.F a c) p 1 y).k = (x.F y).k := fun y => by rw [(upS_k _ _ _ _).1, (levF_k _ _ _ _).1]
    have he : ∀ L, en (upS (levF x.F a c) p 1) L = en (levF x.F a c) L := fun L => en_upS p 1 L
    refine ⟨?_, ?_, ?_, ?_, ?_, ?_, ?_⟩
    · show Bk _ g _ (cel g al ke mo x.e0 x.e1 x.mb (sumE (en (upS (levF x.F a c) p 1) (x.T.filter fun y => decide (y ≠ p)))) (sumE (en (upS (levF x.F a c) p 1) x.K)))
      rw [he, he, e1, e2, ek, e3]
      exact hg1.far (p := ⟨p, 2, none⟩) (fun e => h.ng (by rw [e]; exact hnb)) _
    · intro y hy
      refine (hn1.upS p 1) y ?_
      rcases hy with hy | hy
      · rcases hy with hy | hy | hy | hy
        · exact .inl hy
        · exact .inr (.inl hy)
        · exact .inr (.inr (.inl (filter_in hy).1))
        · exact .inr (.inr (.inr hy))
      · rw [hy]; exact hnb
    · refine hgg.other fun y hy => ?_
      show upS (levF x.F a c) p 1 y = levF x.F a c y
      unfold upS
      rw [if_neg (hnot y hy)]
    · exact fun hy => hnot p hy rfl
    · show 1 ≤ (upS (levF x.F a c) p 1 p).z
      rw [hpz]; exact h.gg.pos p (.inl hb)
    · intro y hy
      show (upS (levF x.F a c) p 1 y).k ≠ (upS (levF x.F a c) p 1 p).k
      rw [hpk, hpk]
      intro e
      refine hnot y (.inr (.inr hy)) (h.gg.uq y p ?_ (.inl hb) e)
      exact hy.imp_left fun e => (filter_in e).1
    · show sumE (en (upS (levF x.F a c) p 1) (x.T.filter fun y => decide (y ≠ p))) + sumE (en (upS (levF x.F a c) p 1) x.K) + (upS (levF x.F a c) p 1 p).z ≤ 1073741824
      rw [he, he, e1, e2, ek, e3, hpz]
      have := h.lim
      omega
  have HMD := Lib.hid hMd
  have HEND := Lib.hid (fun (w1 w2 : World) (hc1 : Chg (fun k => k = g ∨ x.nd k) w w1) (hs1 : w1.heap.size = w.heap.size) (e : Ending) (hen : EnPK g al ke mo ⟨x.e0, x.e1, x.mb, (x.T.filter fun y => decide (y ≠ p)), x.K, upS (levF x.F a c) p 1, x.f⟩ p (w1.setCell ⟨p, 2, none⟩ (.int .i64 1)) e w2) => (show StepP g n al ke mo x (delE (x.F p).k x.tE) (((x.F p).k, (x.F p).z) :: delE (x.F p).k x.kE) (x.own g) w w2 ∧ w2.cell? ⟨p, 0, none⟩ = some (.string (x.F p).k) by
    obtain ⟨_, F', q1, q2, q3, q4, q5, q6⟩ := hen
    have hsub : ∀ y, (y = x.e0 ∨ y = x.e1 ∨ y ∈ (x.T.filter fun y => decide (y ≠ p)) ∨ y ∈ x.K) ∨ y = p → x.nd y := fun y hy => by
      rcases hy with hy | hy
      · rcases hy with hy | hy | hy | hy
        · exact .inl hy
        · exact .inr (.inl hy)
        · exact .inr (.inr (.inl (filter_in hy).1))
        · exact .inr (.inr (.inr hy))
      · rw [hy]; exact hnb
    have hC : Chg (fun k => k = g ∨ x.nd k) w w2 := (hc1.setCell (p := ⟨p, 2, none⟩) (Or.inr hnb) _).trans (q5.mono fun k _ hk => hk.imp_right fun e => hsub k (e.elim .inl .inr))
    have hkk : ∀ y, (F' y).k = (x.F y).k := fun y => by rw [(q3 y).1]; exact (upS_k _ _ _ _).1.trans (levF_k _ _ _ _).1
    have hzz : ∀ y, (F' y).z = (x.F y).z := fun y => by rw [(q3 y).2]; exact (upS_k _ _ _ _).2.1.trans (levF_k _ _ _ _).2.1
    have hen2 : ∀ L, en F' L = en (levF x.F a c) L := fun L => en_congr fun y _ => ⟨by rw [hkk, (levF_k _ _ _ _).1], by rw [hzz, (levF_k _ _ _ _).2.1]⟩
    have hT : en F' (x.T.filter fun y => decide (y ≠ p)) = delE (x.F p).k x.tE := by rw [hen2, e1]
    have hK : en F' (p :: x.K) = ((x.F p).k, (x.F p).z) :: delE (x.F p).k x.kE := by show ((F' p).k, (F' p).z) :: en F' x.K = _; rw [hen2, e2, hkk, hzz]
    have hcell : w2.cell? ⟨p, 0, none⟩ = some (.string (x.F p).k) := by rw [← hkk p]; exact (q1 p (.inr rfl)).cell 0
    refine ⟨?_, hcell⟩
    refine ⟨⟨x.e0, x.e1, x.mb, (x.T.filter fun y => decide (y ≠ p)), (p :: x.K), F', x.f⟩, ⟨?_, ?_, q2, h.map_ hC fun _ e => e, ?_, ?_, h.cnt⟩, hT, hK, fun y hy => ?_, hC.mono fun k _ hk => hk.elim .inl fun e => .inr (.inr e), by rw [q6]; simpa [World.setCell] using hs1⟩
    · show Bk w2 g _ (cel g al ke mo x.e0 x.e1 x.mb (sumE (en F' (x.T.filter fun y => decide (y ≠ p)))) (sumE (en F' (p :: x.K))))
      have hb2 : Bk w2 g 124 (cel g al ke mo x.e0 x.e1 x.mb (sumE (en (upS (levF x.F a c) p 1) (x.T.filter fun y => decide (y ≠ p)))) (sumE (en (upS (levF x.F a c) p 1) x.K) + (upS (levF x.F a c) p 1 p).z)) := q4
      have he : ∀ L, en (upS (levF x.F a c) p 1) L = en (levF x.F a c) L := fun L => en_upS p 1 L
      have hpz : (upS (levF x.F a c) p 1 p).z = (x.F p).z := by rw [(upS_k _ _ _ _).2.1, (levF_k _ _ _ _).2.1]
      rw [he, he, hpz, e1, e2] at hb2
      rw [hT, hK]
      have e9 : sumE (((x.F p).k, (x.F p).z) :: delE (x.F p).k x.kE) = sumE (delE (x.F p).k x.kE) + (x.F p).z := by rw [sumE]; exact Int.add_comm _ _
      rw [e9]
      exact hb2
    · intro y hy
      refine q1 y ?_
      rcases hy with hy | hy | hy | hy
      · exact .inl (.inl hy)
      · exact .inl (.inr (.inl hy))
      · exact .inl (.inr (.inr (.inl hy)))
      · rcases List.mem_cons.1 hy with hy | hy
        · exact .inr hy
        · exact .inl (.inr (.inr (.inr hy)))
    · intro q d
      show x.f q = some d ↔ (d ∈ (x.T.filter fun y => decide (y ≠ p)) ∨ d ∈ (p :: x.K)) ∧ (F' d).k = q
      rw [hkk, h.lk q d]
      refine ⟨fun ⟨hd, e⟩ => ⟨?_, e⟩, fun ⟨hd, e⟩ => ⟨?_, e⟩⟩
      · by_cases e : d = p; exact .inr (by rw [e]; exact List.mem_cons_self ..); exact hd.elim (fun h0 => .inl (filter_mk h0 e)) fun h0 => .inr (List.mem_cons_of_mem _ h0)
      · exact hd.elim (fun e => .inl (filter_in e).1) fun e => by rcases List.mem_cons.1 e with e | e; exact .inl (by rw [e]; exact hb); exact .inr e
    · show sumE (en F' (x.T.filter fun y => decide (y ≠ p))) + sumE (en F' (p :: x.K)) ≤ 1073741824
      rw [hT, hK]
      have := h.lim
      rw [sumE, ek, e3]; simp only
      omega
    · rcases hy with hy | hy | hy
      · exact .inl hy
      · exact .inr (.inl hy)
      · refine .inr (.inr (hsub y ?_))
        rcases hy with hy | hy | hy | hy
        · exact .inl (.inl hy)
        · exact .inl (.inr (.inl hy))
        · exact .inl (.inr (.inr (.inl hy)))
        · rcases List.mem_cons.1 hy with hy | hy
          · exact .inr hy
          · exact .inl (.inr (.inr (.inr hy)))))
  have HNB := Lib.hid (fun (w1 : World) (hn1 : NN w1 x.nd (levF x.F a c)) => hn1 p hnb)
  clear h hf hb h1 h2 ha hc h3 h4 h5 hgg e1 e2 e3 hbK hnb hs hpe0 hpe1 hnot ek hMd
  go_enter Tryz.func85, Tryz.ntmps85
  go_wp2
  go_region_with (go_at_call 90; refine (HLV.out _ (by exact ⟨rfl, rfl, rfl, rfl⟩)).mono ?_; rintro e w1 ⟨rfl, hn1, hg1, hc1, hs1⟩)
  all_goals
    have hp1 := HNB.out w1 hn1
    have d2 : ∃ v, w1.cell? ⟨p, 2, none⟩ = some v := ⟨_, hp1.cell 2⟩
    obtain ⟨v2, d2⟩ := d2
    have f2 := hp1.frozen 2
    have HEN := Lib.hid (ent_K _ g al ke mo _ p (HMD.out w1 hn1 hg1) (by show (upS (levF x.F a c) p 1 p).s = 1; rw [upS_s, if_pos rfl]))
    have HC1 := Lib.hid hc1
    have HS1 := Lib.hid hs1
    clear hp1 hn1 hg1 hc1 hs1
    go_wp2_with (go_at_call 103; refine HEN.out.mono ?_; intro e w2 hq; have HQ := Lib.hid hq; obtain ⟨rfl, _⟩ := hq)
    refine bodyPost_ret (v := .tuple #[]) (by simp [results, Tryz.results85, go_sem]) rfl ⟨rfl, ?_⟩
    exact HEND.out w1 w2 HC1.out HS1.out _ HQ.out
set_option maxHeartbeats 2000000 in
theorem move_KT (w : World) (g n : Nat) (al ke mo : Int) (x : Sx) (h : St w g n al ke mo x) (p : Nat) (hb : p ∈ x.K) :
    Calls Tryz.prog 85 #[ptr g, ptr p, .int .i64 0] w (RetP fun w' => StepP g n al ke mo x (((x.F p).k, (x.F p).z) :: delE (x.F p).k x.tE) (delE (x.F p).k x.kE) (x.own g) w w' ∧ w'.cell? ⟨p, 0, none⟩ = some (.string (x.F p).k)) := by
  have hf : x.f (x.F p).k = some p := (h.lk _ _).2 ⟨.inr hb, rfl⟩
  obtain ⟨a, c, h1, h2, ha, hc, h3, h4, h5, hgg, e1, e2, e3, hbK⟩ := h.leaveK hf hb
  have hnb : x.nd p := .inr (.inr (.inr hb))
  have HLV := Lib.hid (fun (W : World) (hW : Sm w W) => lvK_any w W hW g n al ke mo x h p a c hnb h1 h2 ha hc h3 h4 h5)
  obtain ⟨_, _, c2, _, _⟩ := h.node hnb
  have hs : (x.F p).s = 1 := h.gg.sg1 p hb
  rw [hs] at c2
  have hpe0 : p ≠ x.e0 := fun e => h.gg.ap p (.inl e) (.inr hb)
  have hpe1 : p ≠ x.e1 := fun e => (List.nodup_cons.1 h.gg.n1).1 (by rw [← e]; exact hb)
  have hnot : ∀ y, (y = x.e0 ∨ y = x.e1 ∨ y ∈ x.T ∨ y ∈ (x.K.filter fun y => decide (y ≠ p))) → y ≠ p := by
    rintro y hy rfl
    rcases hy with hy | hy | hy | hy
    · exact hpe0 hy
    · exact hpe1 hy
    · exact hbK hy
    · exact (filter_in hy).2 rfl
  have ek : delE (x.F p).k x.tE = x.tE := by rw [← e2, en_lev]; rfl
  have hMd : ∀ w1, NN w1 x.nd (levF x.F a c) → Bk w1 g 124 ((cel g al ke mo x.e0 x.e1 x.mb (sumE x.tE) (sumE x.kE)).setIfInBounds 7 (.int .i64 (sumE x.kE - (x.F p).z))) →
      Md (w1.setCell ⟨p, 2, none⟩ (.int .i64 0)) g al ke mo ⟨x.e0, x.e1, x.mb, x.T, (x.K.filter fun y => decide (y ≠ p)), upS (levF x.F a c) p 0, x.f⟩ p := by
    intro w1 hn1 hg1
    have hpz : (upS (levF x.F a c) p 0 p).z = (x.F p).z := by rw [(upS_k _ _ _ _).2.1, (levF_k _ _ _ _).2.1]
    have hpk : ∀ y, (upS (levF x.F a c) p 0 y).k = (x.F y).k := fun y => by rw [(upS_k _ _ _ _).1, (levF_k _ _ _ _).1]
    have he : ∀ L, en (upS (levF x.F a c) p 0) L = en (levF x.F a c) L := fun L => en_upS p 0 L
    refine ⟨?_, ?_, ?_, ?_, ?_, ?_, ?_⟩
    · show Bk _ g _ (cel g al ke mo x.e0 x.e1 x.mb (sumE (en (upS (levF x.F a c) p 0) x.T)) (sumE (en (upS (levF x.F a c) p 0) (x.K.filter fun y => decide (y ≠ p)))))
      rw [he, he, e2, e1, ek, e3]
      exact hg1.far (p := ⟨p, 2, none⟩) (fun e => h.ng (by rw [e]; exact hnb)) _
    · intro y hy
      refine (hn1.upS p 0) y ?_
      rcases hy with hy | hy
      · rcases hy with hy | hy | hy | hy
        · exact .inl hy
        · exact .inr (.inl hy)
        · exact .inr (.inr (.inl hy))
        · exact .inr (.inr (.inr (filter_in hy).1))
      · rw [hy]; exact hnb
    · refine hgg.other fun y hy => ?_
      show upS (levF x.F a c) p 0 y = levF x.F a c y
      unfold upS
      rw [if_neg (hnot y hy)]
    · exact fun hy => hnot p hy rfl
    · show 1 ≤ (upS (levF x.F a c) p 0 p).z
      rw [hpz]; exact h.gg.pos p (.inr hb)
    · intro y hy
      show (upS (levF x.F a c) p 0 y).k ≠ (upS (levF x.F a c) p 0 p).k
      rw [hpk, hpk]
      intro e
      refine hnot y (.inr (.inr hy)) (h.gg.uq y p ?_ (.inr hb) e)
      exact hy.imp_right fun e => (filter_in e).1
    · show sumE (en (upS (levF x.F a c) p 0) x.T) + sumE (en (upS (levF x.F a c) p 0) (x.K.filter fun y => decide (y ≠ p))) + (upS (levF x.F a c) p 0 p).z ≤ 1073741824
      rw [he, he, e2, e1, ek, e3, hpz]
      have := h.lim
      omega
  have HMD := Lib.hid hMd
  have HEND := Lib.hid (fun (w1 w2 : World) (hc1 : Chg (fun k => k = g ∨ x.nd k) w w1) (hs1 : w1.heap.size = w.heap.size) (e : Ending) (hen : EnPT g al ke mo ⟨x.e0, x.e1, x.mb, x.T, (x.K.filter fun y => decide (y ≠ p)), upS (levF x.F a c) p 0, x.f⟩ p (w1.setCell ⟨p, 2, none⟩ (.int .i64 0)) e w2) => (show StepP g n al ke mo x (((x.F p).k, (x.F p).z) :: delE (x.F p).k x.tE) (delE (x.F p).k x.kE) (x.own g) w w2 ∧ w2.cell? ⟨p, 0, none⟩ = some (.string (x.F p).k) by
    obtain ⟨_, F', q1, q2, q3, q4, q5, q6⟩ := hen
    have hsub : ∀ y, (y = x.e0 ∨ y = x.e1 ∨ y ∈ x.T ∨ y ∈ (x.K.filter fun y => decide (y ≠ p))) ∨ y = p → x.nd y := fun y hy => by
      rcases hy with hy | hy
      · rcases hy with hy | hy | hy | hy
        · exact .inl hy
        · exact .inr (.inl hy)
        · exact .inr (.inr (.inl hy))
        · exact .inr (.inr (.inr (filter_in hy).1))
      · rw [hy]; exact hnb
    have hC : Chg (fun k => k = g ∨ x.nd k) w w2 := (hc1.setCell (p := ⟨p, 2, none⟩) (Or.inr hnb) _).trans (q5.mono fun k _ hk => hk.imp_right fun e => hsub k (e.elim .inl .inr))
    have hkk : ∀ y, (F' y).k = (x.F y).k := fun y => by rw [(q3 y).1]; exact (upS_k _ _ _ _).1.trans (levF_k _ _ _ _).1
    have hzz : ∀ y, (F' y).z = (x.F y).z := fun y => by rw [(q3 y).2]; exact (upS_k _ _ _ _).2.1.trans (levF_k _ _ _ _).2.1
    have hen2 : ∀ L, en F' L = en (levF x.F a c) L := fun L => en_congr fun y _ => ⟨by rw [hkk, (levF_k _ _ _ _).1], by rw [hzz, (levF_k _ _ _ _).2.1]⟩
    have hT : en F' (p :: x.T) = ((x.F p).k, (x.F p).z) :: delE (x.F p).k x.tE := by show ((F' p).k, (F' p).z) :: en F' x.T = _; rw [hen2, e2, hkk, hzz]
    have hK : en F' (x.K.filter fun y => decide (y ≠ p)) = delE (x.F p).k x.kE := by rw [hen2, e1]
    have hcell : w2.cell? ⟨p, 0, none⟩ = some (.string (x.F p).k) := by rw [← hkk p]; exact (q1 p (.inr rfl)).cell 0
    refine ⟨?_, hcell⟩
    refine ⟨⟨x.e0, x.e1, x.mb, (p :: x.T), (x.K.filter fun y => decide (y ≠ p)), F', x.f⟩, ⟨?_, ?_, q2, h.map_ hC fun _ e => e, ?_, ?_, h.cnt⟩, hT, hK, fun y hy => ?_, hC.mono fun k _ hk => hk.elim .inl fun e => .inr (.inr e), by rw [q6]; simpa [World.setCell] using hs1⟩
    · show Bk w2 g _ (cel g al ke mo x.e0 x.e1 x.mb (sumE (en F' (p :: x.T))) (sumE (en F' (x.K.filter fun y => decide (y ≠ p)))))
      have hb2 : Bk w2 g 124 (cel g al ke mo x.e0 x.e1 x.mb (sumE (en (upS (levF x.F a c) p 0) x.T) + (upS (levF x.F a c) p 0 p).z) (sumE (en (upS (levF x.F a c) p 0) (x.K.filter fun y => decide (y ≠ p))))) := q4
      have he : ∀ L, en (upS (levF x.F a c) p 0) L = en (levF x.F a c) L := fun L => en_upS p 0 L
      have hpz : (upS (levF x.F a c) p 0 p).z = (x.F p).z := by rw [(upS_k _ _ _ _).2.1, (levF_k _ _ _ _).2.1]
      rw [he, he, hpz, e2, e1] at hb2
      rw [hT, hK]
      have e9 : sumE (((x.F p).k, (x.F p).z) :: delE (x.F p).k x.tE) = sumE (delE (x.F p).k x.tE) + (x.F p).z := by rw [sumE]; exact Int.add_comm _ _
      rw [e9]
      exact hb2
    · intro y hy
      refine q1 y ?_
      rcases hy with hy | hy | hy | hy
      · exact .inl (.inl hy)
      · exact .inl (.inr (.inl hy))
      · rcases List.mem_cons.1 hy with hy | hy
        · exact .inr hy
        · exact .inl (.inr (.inr (.inl hy)))
      · exact .inl (.inr (.inr (.inr hy)))
    · intro q d
      show x.f q = some d ↔ (d ∈ (p :: x.T) ∨ d ∈ (x.K.filter fun y => decide (y ≠ p))) ∧ (F' d).k = q
      rw [hkk, h.lk q d]
      refine ⟨fun ⟨hd, e⟩ => ⟨?_, e⟩, fun ⟨hd, e⟩ => ⟨?_, e⟩⟩
      · by_cases e : d = p; exact .inl (by rw [e]; exact List.mem_cons_self ..); exact hd.elim (fun h0 => .inl (List.mem_cons_of_mem _ h0)) fun h0 => .inr (filter_mk h0 e)
      · exact hd.elim (fun e => by rcases List.mem_cons.1 e with e | e; exact .inr (by rw [e]; exact hb); exact .inl e) fun e => .inr (filter_in e).1
    · show sumE (en F' (p :: x.T)) + sumE (en F' (x.K.filter fun y => decide (y ≠ p))) ≤ 1073741824
      rw [hT, hK]
      have := h.lim
      rw [sumE, ek, e3]; simp only
      omega
    · rcases hy with hy | hy | hy
      · exact .inl hy
      · exact .inr (.inl hy)
      · refine .inr (.inr (hsub y ?_))
        rcases hy with hy | hy | hy | hy
        · exact .inl (.inl hy)
        · exact .inl (.inr (.inl hy))
        · rcases List.mem_cons.1 hy with hy | hy
          · exact .inr hy
          · exact .inl (.inr (.inr (.inl hy)))
        · exact .inl (.inr (.inr (.inr hy)))))
  have HNB := Lib.hid (fun (w1 : World) (hn1 : NN w1 x.nd (levF x.F a c)) => hn1 p hnb)
  clear h hf hb h1 h2 ha hc h3 h4 h5 hgg e1 e2 e3 hbK hnb hs hpe0 hpe1 hnot ek hMd
  go_enter Tryz.func85, Tryz.ntmps85
  go_wp2
  go_region_with (go_at_call 90; refine (HLV.out _ (by exact ⟨rfl, rfl, rfl, rfl⟩)).mono ?_; rintro e w1 ⟨rfl, hn1, hg1, hc1, hs1⟩)
  all_goals
    have hp1 := HNB.out w1 hn1
    have d2 : ∃ v, w1.cell? ⟨p, 2, none⟩ = some v := ⟨_, hp1.cell 2⟩
    obtain ⟨v2, d2⟩ := d2
    have f2 := hp1.frozen 2
    have HEN := Lib.hid (ent_T _ g al ke mo _ p (HMD.out w1 hn1 hg1) (by show (upS (levF x.F a c) p 0 p).s = 0; rw [upS_s, if_pos rfl]))
    have HC1 := Lib.hid hc1
    have HS1 := Lib.hid hs1
    clear hp1 hn1 hg1 hc1 hs1
    go_wp2_with (go_at_call 103; refine HEN.out.mono ?_; intro e w2 hq; have HQ := Lib.hid hq; obtain ⟨rfl, _⟩ := hq)
    refine bodyPost_ret (v := .tuple #[]) (by simp [results, Tryz.results85, go_sem]) rfl ⟨rfl, ?_⟩
    exact HEND.out w1 w2 HC1.out HS1.out _ HQ.out
set_option maxHeartbeats 2000000 in
theorem move_KK (w : World) (g n : Nat) (al ke mo : Int) (x : Sx) (h : St w g n al ke mo x) (p : Nat) (hb : p ∈ x.K) :
    Calls Tryz.prog 85 #[ptr g, ptr p, .int .i64 1] w (RetP fun w' => StepP g n al ke mo x (delE (x.F p).k x.tE) (((x.F p).k, (x.F p).z) :: delE (x.F p).k x.kE) (x.own g) w w' ∧ w'.cell? ⟨p, 0, none⟩ = some (.string (x.F p).k)) := by
  have hf : x.f (x.F p).k = some p := (h.lk _ _).2 ⟨.inr hb, rfl⟩
  obtain ⟨a, c, h1, h2, ha, hc, h3, h4, h5, hgg, e1, e2, e3, hbK⟩ := h.leaveK hf hb
  have hnb : x.nd p := .inr (.inr (.inr hb))
  have HLV := Lib.hid (fun (W : World) (hW : Sm w W) => lvK_any w W hW g n al ke mo x h p a c hnb h1 h2 ha hc h3 h4 h5)
  obtain ⟨_, _, c2, _, _⟩ := h.node hnb
  have hs : (x.F p).s = 1 := h.gg.sg1 p hb
  rw [hs] at c2
  have hpe0 : p ≠ x.e0 := fun e => h.gg.ap p (.inl e) (.inr hb)
  have hpe1 : p ≠ x.e1 := fun e => (List.nodup_cons.1 h.gg.n1).1 (by rw [← e]; exact hb)
  have hnot : ∀ y, (y = x.e0 ∨ y = x.e1 ∨ y ∈ x.T ∨ y ∈ (x.K.filter fun y => decide (y ≠ p))) → y ≠ p := by
    rintro y hy rfl
    rcases hy with hy | hy | hy | hy
    · exact hpe0 hy
    · exact hpe1 hy
    · exact hbK hy
    · exact (filter_in hy).2 rfl
  have ek : delE (x.F p).k x.tE = x.tE := by rw [← e2, en_lev]; rfl
  have hMd : ∀ w1, NN w1 x.nd (levF x.F a c) → Bk w1 g 124 ((cel g al ke mo x.e0 x.e1 x.mb (sumE x.tE) (sumE x.kE)).setIfInBounds 7 (.int .i64 (sumE x.kE - (x.F p).z))) →
      Md (w1.setCell ⟨p, 2, none⟩ (.int .i64 1)) g al ke mo ⟨x.e0, x.e1, x.mb, x.T, (x.K.filter fun y => decide (y ≠ p)), upS (levF x.F a c) p 1, x.f⟩ p := by
    intro w1 hn1 hg1
    have hpz : (upS (levF x.F a c) p 1 p).z = (x.F p).z := by rw [(upS_k _ _ _ _).2.1, (levF_k _ _ _ _).2.1]
    have hpk : ∀ y, (upS (levF x.F a c) p 1 y).k = (x.F y).k := fun y => by rw [(upS_k _ _ _ _).1, (levF_k _ _ _ _).1]
    have he : ∀ L, en (upS (levF x.F a c) p 1) L = en (levF x.F a c) L := fun L => en_upS p 1 L
    refine ⟨?_, ?_, ?_, ?_, ?_, ?_, ?_⟩
    · show Bk _ g _ (cel g al ke mo x.e0 x.e1 x.mb (sumE (en (upS (levF x.F a c) p 1) x.T)) (sumE (en (upS (levF x.F a c) p 1) (x.K.filter fun y => decide (y ≠ p)))))
      rw [he, he, e2, e1, ek, e3]
      exact hg1.far (p := ⟨p, 2, none⟩) (fun e => h.ng (by rw [e]; exact hnb)) _
    · intro y hy
      refine (hn1.upS p 1) y ?_
      rcases hy with hy | hy
      · rcases hy with hy | hy | hy | hy
        · exact .inl hy
        · exact .inr (.inl hy)
        · exact .inr (.inr (.inl hy))
        · exact .inr (.inr (.inr (filter_in hy).1))
      · rw [hy]; exact hnb
    · refine hgg.other fun y hy => ?_
      show upS (levF x.F a c) p 1 y = levF x.F a c y
      unfold upS
      rw [if_neg (hnot y hy)]
    · exact fun hy => hnot p hy rfl
    · show 1 ≤ (upS (levF x.F a c) p 1 p).z
      rw [hpz]; exact h.gg.pos p (.inr hb)
    · intro y hy
      show (upS (levF x.F a c) p 1 y).k ≠ (upS (levF x.F a c) p 1 p).k
      rw [hpk, hpk]
      intro e
      refine hnot y (.inr (.inr hy)) (h.gg.uq y p ?_ (.inr hb) e)
      exact hy.imp_right fun e => (filter_in e).1
    · show sumE (en (upS (levF x.F a c) p 1) x.T) + sumE (en (upS (levF x.F a c) p 1) (x.K.filter fun y => decide (y ≠ p))) + (upS (levF x.F a c) p 1 p).z ≤ 1073741824
      rw [he, he, e2, e1, ek, e3, hpz]
      have := h.lim
      omega
  have HMD := Lib.hid hMd
  have HEND := Lib.hid (fun (w1 w2 : World) (hc1 : Chg (fun k => k = g ∨ x.nd k) w w1) (hs1 : w1.heap.size = w.heap.size) (e : Ending) (hen : EnPK g al ke mo ⟨x.e0, x.e1, x.mb, x.T, (x.K.filter fun y => decide (y ≠ p)), upS (levF x.F a c) p 1, x.f⟩ p (w1.setCell ⟨p, 2, none⟩ (.int .i64 1)) e w2) => (show StepP g n al ke mo x (delE (x.F p).k x.tE) (((x.F p).k, (x.F p).z) :: delE (x.F p).k x.kE) (x.own g) w w2 ∧ w2.cell? ⟨p, 0, none⟩ = some (.string (x.F p).k) by
    obtain ⟨_, F', q1, q2, q3, q4, q5, q6⟩ := hen
    have hsub : ∀ y, (y = x.e0 ∨ y = x.e1 ∨ y ∈ x.T ∨ y ∈ (x.K.filter fun y => decide (y ≠ p))) ∨ y = p → x.nd y := fun y hy => by
      rcases hy with hy | hy
      · rcases hy with hy | hy | hy | hy
        · exact .inl hy
        · exact .inr (.inl hy)
        · exact .inr (.inr (.inl hy))
        · exact .inr (.inr (.inr (filter_in hy).1))
      · rw [hy]; exact hnb
    have hC : Chg (fun k => k = g ∨ x.nd k) w w2 := (hc1.setCell (p := ⟨p, 2, none⟩) (Or.inr hnb) _).trans (q5.mono fun k _ hk => hk.imp_right fun e => hsub k (e.elim .inl .inr))
    have hkk : ∀ y, (F' y).k = (x.F y).k := fun y => by rw [(q3 y).1]; exact (upS_k _ _ _ _).1.trans (levF_k _ _ _ _).1
    have hzz : ∀ y, (F' y).z = (x.F y).z := fun y => by rw [(q3 y).2]; exact (upS_k _ _ _ _).2.1.trans (levF_k _ _ _ _).2.1
    have hen2 : ∀ L, en F' L = en (levF x.F a c) L := fun L => en_congr fun y _ => ⟨by rw [hkk, (levF_k _ _ _ _).1], by rw [hzz, (levF_k _ _ _ _).2.1]⟩
    have hT : en F' x.T = delE (x.F p).k x.tE := by rw [hen2, e2]
    have hK : en F' (p :: (x.K.filter fun y => decide (y ≠ p))) = ((x.F p).k, (x.F p).z) :: delE (x.F p).k x.kE := by show ((F' p).k, (F' p).z) :: en F' (x.K.filter fun y => decide (y ≠ p)) = _; rw [hen2, e1, hkk, hzz]
    have hcell : w2.cell? ⟨p, 0, none⟩ = some (.string (x.F p).k) := by rw [← hkk p]; exact (q1 p (.inr rfl)).cell 0
    refine ⟨?_, hcell⟩
    refine ⟨⟨x.e0, x.e1, x.mb, x.T, (p :: (x.K.filter fun y => decide (y ≠ p))), F', x.f⟩, ⟨?_, ?_, q2, h.map_ hC fun _ e => e, ?_, ?_, h.cnt⟩, hT, hK, fun y hy => ?_, hC.mono fun k _ hk => hk.elim .inl fun e => .inr (.inr e), by rw [q6]; simpa [World.setCell] using hs1⟩
    · show Bk w2 g _ (cel g al ke mo x.e0 x.e1 x.mb (sumE (en F' x.T)) (sumE (en F' (p :: (x.K.filter fun y => decide (y ≠ p))))))
      have hb2 : Bk w2 g 124 (cel g al ke mo x.e0 x.e1 x.mb (sumE (en (upS (levF x.F a c) p 1) x.T)) (sumE (en (upS (levF x.F a c) p 1) (x.K.filter fun y => decide (y ≠ p))) + (upS (levF x.F a c) p 1 p).z)) := q4
      have he : ∀ L, en (upS (levF x.F a c) p 1) L = en (levF x.F a c) L := fun L => en_upS p 1 L
      have hpz : (upS (levF x.F a c) p 1 p).z = (x.F p).z := by rw [(upS_k _ _ _ _).2.1, (levF_k _ _ _ _).2.1]
      rw [he, he, hpz, e2, e1] at hb2
      rw [hT, hK]
      have e9 : sumE (((x.F p).k, (x.F p).z) :: delE (x.F p).k x.kE) = sumE (delE (x.F p).k x.kE) + (x.F p).z := by rw [sumE]; exact Int.add_comm _ _
      rw [e9]
      exact hb2
    · intro y hy
      refine q1 y ?_
      rcases hy with hy | hy | hy | hy
      · exact .inl (.inl hy)
      · exact .inl (.inr (.inl hy))
      · exact .inl (.inr (.inr (.inl hy)))
      · rcases List.mem_cons.1 hy with hy | hy
        · exact .inr hy
        · exact .inl (.inr (.inr (.inr hy)))
    · intro q d
      show x.f q = some d ↔ (d ∈ x.T ∨ d ∈ (p :: (x.K.filter fun y => decide (y ≠ p)))) ∧ (F' d).k = q
      rw [hkk, h.lk q d]
      refine ⟨fun ⟨hd, e⟩ => ⟨?_, e⟩, fun ⟨hd, e⟩ => ⟨?_, e⟩⟩
      · by_cases e : d = p; exact .inr (by rw [e]; exact List.mem_cons_self ..); exact hd.imp_right fun h0 => List.mem_cons_of_mem _ (filter_mk h0 e)
      · exact hd.elim .inl fun e => by rcases List.mem_cons.1 e with e | e; exact .inr (by rw [e]; exact hb); exact .inr (filter_in e).1
    · show sumE (en F' x.T) + sumE (en F' (p :: (x.K.filter fun y => decide (y ≠ p)))) ≤ 1073741824
      rw [hT, hK]
      have := h.lim
      rw [sumE, ek, e3]; simp only
      omega
    · rcases hy with hy | hy | hy
      · exact .inl hy
      · exact .inr (.inl hy)
      · refine .inr (.inr (hsub y ?_))
        rcases hy with hy | hy | hy | hy
        · exact .inl (.inl hy)
        · exact .inl (.inr (.inl hy))
        · exact .inl (.inr (.inr (.inl hy)))
        · rcases List.mem_cons.1 hy with hy | hy
          · exact .inr hy
          · exact .inl (.inr (.inr (.inr hy)))))
  have HNB := Lib.hid (fun (w1 : World) (hn1 : NN w1 x.nd (levF x.F a c)) => hn1 p hnb)
  clear h hf hb h1 h2 ha hc h3 h4 h5 hgg e1 e2 e3 hbK hnb hs hpe0 hpe1 hnot ek hMd
  go_enter Tryz.func85, Tryz.ntmps85
  go_wp2
  go_region_with (go_at_call 90; refine (HLV.out _ (by exact ⟨rfl, rfl, rfl, rfl⟩)).mono ?_; rintro e w1 ⟨rfl, hn1, hg1, hc1, hs1⟩)
  all_goals
    have hp1 := HNB.out w1 hn1
    have d2 : ∃ v, w1.cell? ⟨p, 2, none⟩ = some v := ⟨_, hp1.cell 2⟩
    obtain ⟨v2, d2⟩ := d2
    have f2 := hp1.frozen 2
    have HEN := Lib.hid (ent_K _ g al ke mo _ p (HMD.out w1 hn1 hg1) (by show (upS (levF x.F a c) p 1 p).s = 1; rw [upS_s, if_pos rfl]))
    have HC1 := Lib.hid hc1
    have HS1 := Lib.hid hs1
    clear hp1 hn1 hg1 hc1 hs1
    go_wp2_with (go_at_call 103; refine HEN.out.mono ?_; intro e w2 hq; have HQ := Lib.hid hq; obtain ⟨rfl, _⟩ := hq)
    refine bodyPost_ret (v := .tuple #[]) (by simp [results, Tryz.results85, go_sem]) rfl ⟨rfl, ?_⟩
    exact HEND.out w1 w2 HC1.out HS1.out _ HQ.out
end Go.Proofs.YtjngangojgjceaaGreat.SL
