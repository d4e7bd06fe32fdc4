/- Tax -/
import Derived.Test.YtjmmninopagpjaaGreatDoorG47
import Derived.Test.YtjmmninopagpjaaGreatDoorG1
set_option linter.unusedSimpArgs false
set_option linter.unusedVariables false
namespace Go.Proofs.YtjmmninopagpjaaGreatDoor
open Go.ChangeShapes Go.WideShapes Go.ChangeAt Go.RowKit Go.ChangeMaps
set_option maxRecDepth 100000
set_option linter.unusedVariables false
set_option linter.unusedSimpArgs false

set_option maxHeartbeats 8000000 in
theorem tnil_any (id cl : Int) (m : Int) (w : World) (hm : Wq m w) :
  Calls Tryz.prog 6 #[.int .i64 id,.int .i64 cl] w fun e w' => e = .returned (.bool true) ∧ Below w.heap.size w w' := by
 have HM := Lib.hid hm
 obtain ⟨W,hW⟩ : ∃ W,w.alloc (.cells #[.pointer none,.slice none 0 0,.map none] 58) = W := ⟨_,rfl⟩
 obtain ⟨z,hz⟩ : ∃ b,w.heap.size = b := ⟨_,rfl⟩
 have hb : Below w.heap.size w W := by rw [← hW]; exact (Below.refl _ _).alloc (Nat.le_refl _) _
 have hk : SL.Bk W z 58 #[.pointer none,.slice none 0 0,.map none] := by rw [← hW,← hz]; exact SL.Bk.new _ _ _
 have HB := Lib.hid hb
 have HK := Lib.hid hk
 clear hb hk hm
 go_enter Tryz.func6,Tryz.ntmps6
 go_wp2_with fail
 try rw [hW]
 try rw [hz]
 refine (drun_nil id cl 0 ⟨#[]⟩ 0 0 false _).mono ?_
 rintro e w1 ⟨rfl,hb⟩
 have HK := Lib.hid (bk_bel HK.out hb)
 have HB := Lib.hid (HB.out.trans (hb.mono HB.out.size))
 clear hb
 try clear hW hz
 go_wp2_with fail
 refine (drun_zero id cl 0 ⟨#[]⟩ 0 0 false _ z (HK.out.cell 0)).mono ?_
 rintro e w2 ⟨rfl,hb⟩
 have HK := Lib.hid (bk_bel HK.out hb)
 have HB := Lib.hid (HB.out.trans (hb.mono HB.out.size))
 clear hb
 go_wp2_with fail
 refine (dend_nil id _).mono ?_
 rintro e w3 ⟨rfl,hb⟩
 have HK := Lib.hid (bk_bel HK.out hb)
 have HB := Lib.hid (HB.out.trans (hb.mono HB.out.size))
 clear hb
 go_wp2_with fail
 refine (dend_zero id _ z (HK.out.cell 0)).mono ?_
 rintro e w4 ⟨rfl,hb⟩
 have HK := Lib.hid (bk_bel HK.out hb)
 have HB := Lib.hid (HB.out.trans (hb.mono HB.out.size))
 clear hb
 go_wp2_with fail
 refine (dstat_nil id _).mono ?_
 rintro e w5 ⟨rfl,hb⟩
 have HK := Lib.hid (bk_bel HK.out hb)
 have HB := Lib.hid (HB.out.trans (hb.mono HB.out.size))
 clear hb
 go_wp2_with fail
 refine (dstat_zero id _ z (HK.out.cell 0)).mono ?_
 rintro e w6 ⟨rfl,hb⟩
 have HK := Lib.hid (bk_bel HK.out hb)
 have HB := Lib.hid (HB.out.trans (hb.mono HB.out.size))
 clear hb
 go_wp2_with fail
 refine (dcomm_nil _).mono ?_
 rintro e w7 ⟨rfl,hb⟩
 have HK := Lib.hid (bk_bel HK.out hb)
 have HB := Lib.hid (HB.out.trans (hb.mono HB.out.size))
 clear hb
 go_wp2_with fail
 refine (dsees_zero id _ z (HK.out.cell 0)).mono ?_
 rintro e w8 ⟨rfl,hb⟩
 have HK := Lib.hid (bk_bel HK.out hb)
 have HB := Lib.hid (HB.out.trans (hb.mono HB.out.size))
 clear hb
 go_wp2_with fail
 refine (dwrit_nil id _).mono ?_
 rintro e w9 ⟨rfl,hb⟩
 have HK := Lib.hid (bk_bel HK.out hb)
 have HB := Lib.hid (HB.out.trans (hb.mono HB.out.size))
 clear hb
 go_wp2_with fail
 refine (dcopy_nil _).mono ?_
 rintro e w10 ⟨rfl,hb⟩
 have HK := Lib.hid (bk_bel HK.out hb)
 have HB := Lib.hid (HB.out.trans (hb.mono HB.out.size))
 clear hb
 go_wp2_with fail
 refine (dcopy_zero _ z (HK.out.cell 0)).mono ?_
 rintro e w11 ⟨rfl,hb⟩
 have HK := Lib.hid (bk_bel HK.out hb)
 have HB := Lib.hid (HB.out.trans (hb.mono HB.out.size))
 clear hb
 go_wp2_with fail
 refine (known9_any m _ (HM.out.below HB.out)).mono ?_
 rintro e w20 ⟨rfl,hb⟩
 have HB := Lib.hid (HB.out.trans (hb.mono HB.out.size))
 clear hb
 go_wp2
 go_ret
 exact ⟨rfl,HB.out⟩
end Go.Proofs.YtjmmninopagpjaaGreatDoor
