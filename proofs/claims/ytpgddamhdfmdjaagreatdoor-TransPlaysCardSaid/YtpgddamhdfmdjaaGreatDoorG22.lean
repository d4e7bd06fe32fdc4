/- Tas Tat Tau -/
import Derived.Test.YtpgddamhdfmdjaaGreatDoorG21
import Derived.Test.YtpgddamhdfmdjaaGreatDoorG1
set_option linter.unusedSimpArgs false
set_option linter.unusedVariables false
set_option maxRecDepth 100000
set_option maxHeartbeats 16000000
namespace Go.Proofs.YtpgddamhdfmdjaaGreatDoor
open Go.ChangeShapes Go.WideShapes Go.ChangeAt Go.RowKit Go.ChangeMaps
theorem XC(B:Nat)(w:World)(g n:Nat)(C:Cdb)(D:Dbp)(h:CD B w g n C D)(hn:n≤9000)(hB:B≤w.heap.size)(id:Int)(hi:I9 id)(cl kd:Int)(nm:ByteArray)(K V:Int)(kb:Bool)(m:Int)(hw:Wq m w)(aZ:nm.size≤1000)(hK:f7 K)(hV:f7 V)(k:Nat)(hI:ce D k)(hk:k≤9000)(hs:isS id=false):
  Calls Tryz.prog 11 #[SL.ptr g,.int .i64 id,.int .i64 cl,.agg #[.int .i64 kd,.string nm,.int .i64 K,.int .i64 V,.bool kb]] w (JZ B g (n+1) C (D,[],1) w):=by
 obtain⟨W0,aH⟩:∃W,w.alloc (.cells #[.int .i64 kd,.string nm,.int .i64 K,.int .i64 V,.bool kb] 34)=W:=⟨_,rfl⟩;obtain⟨cb,an⟩:∃b,w.heap.size=b:=⟨_,rfl⟩;have b0:Below w.heap.size w W0:=by rw[←aH];exact(Below.refl _ _).alloc (Nat.le_refl _) _
 have k0:SL.Bk W0 cb 34 #[.int .i64 kd,.string nm,.int .i64 K,.int .i64 V,.bool kb]:=by rw[←aH,←an];exact SL.Bk.new _ _ _
 have h0:=h.below b0;have cG:B≤W0.heap.size:=Nat.le_trans hB b0.size;have fF:=hw.below b0;obtain⟨H,B0⟩:=hZ2 h0 b0;have HG:=qid (d9 W0 g h0.cells.1);have HI:=qid (GT id W0);rw[hs]at HI;clear h hw hI b0 k0 h0 cG fF hK hV hi hB hn hk hs;go_enter Tryz.func11,Tryz.ntmps11;go_wp2_with fail
 try rw[aH]
 try rw[an]
 refine HG.out.mono ?_;rintro e w' ⟨rfl,rfl⟩;go_wp2_with fail;refine HI.out.mono ?_;rintro e w' ⟨rfl,rfl⟩;go_wp2
 go_ret2
 exact⟨_,rfl,RQ.nil _,StD.pre B0.out ((StD.refl H.out (Below.refl _ _)).mono (Nat.le_succ _))⟩
theorem Vg(B:Nat)(w:World)(g n:Nat)(C:Cdb)(D:Dbp)(h:CD B w g n C D)(hn:n≤9000)(hB:B≤w.heap.size)(id:Int)(hi:I9 id)(cl kd:Int)(nm:ByteArray)(K V:Int)(kb:Bool)(m:Int)(hw:Wq m w)(aZ:nm.size≤1000)(hK:f7 K)(hV:f7 V)(k:Nat)(hI:ce D k)(hk:k≤9000)(hs:isS id=true)(hc:cl=3):
  Calls Tryz.prog 11 #[SL.ptr g,.int .i64 id,.int .i64 cl,.agg #[.int .i64 kd,.string nm,.int .i64 K,.int .i64 V,.bool kb]] w (JZ B g (n+1) C ((rW D id).1,[],(rW D id).2) w):=by
 obtain⟨W0,aH⟩:∃W,w.alloc (.cells #[.int .i64 kd,.string nm,.int .i64 K,.int .i64 V,.bool kb] 34)=W:=⟨_,rfl⟩;obtain⟨cb,an⟩:∃b,w.heap.size=b:=⟨_,rfl⟩;have b0:Below w.heap.size w W0:=by rw[←aH];exact(Below.refl _ _).alloc (Nat.le_refl _) _
 have k0:SL.Bk W0 cb 34 #[.int .i64 kd,.string nm,.int .i64 K,.int .i64 V,.bool kb]:=by rw[←aH,←an];exact SL.Bk.new _ _ _
 have h0:=h.below b0;have cG:B≤W0.heap.size:=Nat.le_trans hB b0.size;have fF:=hw.below b0;obtain⟨H,B0⟩:=hZ2 h0 b0;have HG:=qid (d9 W0 g h0.cells.1);have HI:=qid (GT id W0);rw[hs]at HI;subst hc;have HX:=qid (UU B W0 g n C D h0 (by omega) cG id hi hs _ rfl)
 obtain⟨R,hR⟩:∃R,rW D id=R:=⟨_,rfl⟩;rw[hR]at HX⊢;clear hR;clear h hw hI b0 k0 h0 cG fF hK hV hi hB hn hk hs;go_enter Tryz.func11,Tryz.ntmps11;go_wp2_with fail
 try rw[aH]
 try rw[an]
 refine HG.out.mono ?_;rintro e w' ⟨rfl,rfl⟩;go_wp2_with fail;refine HI.out.mono ?_;rintro e w' ⟨rfl,rfl⟩;go_wp2_with fail;refine HX.out.mono ?_;rintro e w1 ⟨rfl,az⟩;have dL:=qid az;clear az;go_wp2
 go_ret2
 exact⟨_,rfl,RQ.nil _,StD.pre B0.out dL.out⟩
theorem XD(B:Nat)(w:World)(g n:Nat)(C:Cdb)(D:Dbp)(h:CD B w g n C D)(hn:n≤9000)(hB:B≤w.heap.size)(id:Int)(hi:I9 id)(cl kd:Int)(nm:ByteArray)(K V:Int)(kb:Bool)(m:Int)(hw:Wq m w)(aZ:nm.size≤1000)(hK:f7 K)(hV:f7 V)(k:Nat)(hI:ce D k)(hk:k≤9000)(hs:isS id=true)(hc:cl=5):
  Calls Tryz.prog 11 #[SL.ptr g,.int .i64 id,.int .i64 cl,.agg #[.int .i64 kd,.string nm,.int .i64 K,.int .i64 V,.bool kb]] w (JZ B g (n+1) C ((Fr D id).1,[],(Fr D id).2) w):=by
 obtain⟨W0,aH⟩:∃W,w.alloc (.cells #[.int .i64 kd,.string nm,.int .i64 K,.int .i64 V,.bool kb] 34)=W:=⟨_,rfl⟩;obtain⟨cb,an⟩:∃b,w.heap.size=b:=⟨_,rfl⟩;have b0:Below w.heap.size w W0:=by rw[←aH];exact(Below.refl _ _).alloc (Nat.le_refl _) _
 have k0:SL.Bk W0 cb 34 #[.int .i64 kd,.string nm,.int .i64 K,.int .i64 V,.bool kb]:=by rw[←aH,←an];exact SL.Bk.new _ _ _
 have h0:=h.below b0;have cG:B≤W0.heap.size:=Nat.le_trans hB b0.size;have fF:=hw.below b0;obtain⟨H,B0⟩:=hZ2 h0 b0;have HG:=qid (d9 W0 g h0.cells.1);have HI:=qid (GT id W0);rw[hs]at HI;subst hc;have HX:=qid (PQ B W0 g n C D h0 cG id hi hs _ rfl);obtain⟨R,hR⟩:∃R,Fr D id=R:=⟨_,rfl⟩;rw[hR]at HX⊢;clear hR;clear h hw hI b0 k0 h0 cG fF hK hV hi hB hn hk hs;go_enter Tryz.func11,Tryz.ntmps11;go_wp2_with fail
 try rw[aH]
 try rw[an]
 refine HG.out.mono ?_;rintro e w' ⟨rfl,rfl⟩;go_wp2_with fail;refine HI.out.mono ?_;rintro e w' ⟨rfl,rfl⟩;go_wp2_with fail;refine HX.out.mono ?_;rintro e w1 ⟨rfl,az⟩;have dL:=qid az;clear az;go_wp2
 go_ret2
 exact⟨_,rfl,RQ.nil _,StD.pre B0.out (dL.out.mono (Nat.le_succ _))⟩
theorem RL(B:Nat)(w:World)(g n:Nat)(C:Cdb)(D:Dbp)(h:CD B w g n C D)(hn:n≤9000)(hB:B≤w.heap.size)(id:Int)(hi:I9 id)(cl kd:Int)(nm:ByteArray)(K V:Int)(kb:Bool)(m:Int)(hw:Wq m w)(aZ:nm.size≤1000)(hK:f7 K)(hV:f7 V)(k:Nat)(hI:ce D k)(hk:k≤9000)(hs:isS id=true)(hc:cl=4):
  Calls Tryz.prog 11 #[SL.ptr g,.int .i64 id,.int .i64 cl,.agg #[.int .i64 kd,.string nm,.int .i64 K,.int .i64 V,.bool kb]] w (JZ B g (n+1) C ((gE D id).1,[],(gE D id).2) w):=by
 obtain⟨W0,aH⟩:∃W,w.alloc (.cells #[.int .i64 kd,.string nm,.int .i64 K,.int .i64 V,.bool kb] 34)=W:=⟨_,rfl⟩;obtain⟨cb,an⟩:∃b,w.heap.size=b:=⟨_,rfl⟩;have b0:Below w.heap.size w W0:=by rw[←aH];exact(Below.refl _ _).alloc (Nat.le_refl _) _
 have k0:SL.Bk W0 cb 34 #[.int .i64 kd,.string nm,.int .i64 K,.int .i64 V,.bool kb]:=by rw[←aH,←an];exact SL.Bk.new _ _ _
 have h0:=h.below b0;have cG:B≤W0.heap.size:=Nat.le_trans hB b0.size;have fF:=hw.below b0;obtain⟨H,B0⟩:=hZ2 h0 b0;have HG:=qid (d9 W0 g h0.cells.1);have HI:=qid (GT id W0);rw[hs]at HI;subst hc;have eR:=hI.seen id;have hlen:=hI.st.len;have HX:=qid (Rt B W0 g n C D h0 (by omega) cG id hi hs hI.st.tabs.up (hI.ownT id).1.up (by omega) (eR.1.ok (by omega)).few _ rfl)
 obtain⟨R,hR⟩:∃R,gE D id=R:=⟨_,rfl⟩;rw[hR]at HX⊢;clear hR eR hlen;clear h hw hI b0 k0 h0 cG fF hK hV hi hB hn hk hs;go_enter Tryz.func11,Tryz.ntmps11;go_wp2_with fail
 try rw[aH]
 try rw[an]
 refine HG.out.mono ?_;rintro e w' ⟨rfl,rfl⟩;go_wp2_with fail;refine HI.out.mono ?_;rintro e w' ⟨rfl,rfl⟩;go_wp2_with fail;refine HX.out.mono ?_;rintro e w1 ⟨rfl,az⟩;have dL:=qid az;clear az;go_wp2
 go_ret2
 exact⟨_,rfl,RQ.nil _,StD.pre B0.out (dL.out.mono (Nat.le_succ _))⟩
theorem ZX(B:Nat)(w:World)(g n:Nat)(C:Cdb)(D:Dbp)(h:CD B w g n C D)(hn:n≤9000)(hB:B≤w.heap.size)(id:Int)(hi:I9 id)(cl kd:Int)(nm:ByteArray)(K V:Int)(kb:Bool)(m:Int)(hw:Wq m w)(aZ:nm.size≤1000)(hK:f7 K)(hV:f7 V)(k:Nat)(hI:ce D k)(hk:k≤9000)(hs:isS id=true)(h3:cl≠3)(h4:cl≠4)(h5:cl≠5)(he:stO (D.2 id)=69):
  Calls Tryz.prog 11 #[SL.ptr g,.int .i64 id,.int .i64 cl,.agg #[.int .i64 kd,.string nm,.int .i64 K,.int .i64 V,.bool kb]] w (JZ B g (n+1) C (D,[],13) w):=by
 obtain⟨W0,aH⟩:∃W,w.alloc (.cells #[.int .i64 kd,.string nm,.int .i64 K,.int .i64 V,.bool kb] 34)=W:=⟨_,rfl⟩;obtain⟨cb,an⟩:∃b,w.heap.size=b:=⟨_,rfl⟩;have b0:Below w.heap.size w W0:=by rw[←aH];exact(Below.refl _ _).alloc (Nat.le_refl _) _
 have k0:SL.Bk W0 cb 34 #[.int .i64 kd,.string nm,.int .i64 K,.int .i64 V,.bool kb]:=by rw[←aH,←an];exact SL.Bk.new _ _ _
 have h0:=h.below b0;have cG:B≤W0.heap.size:=Nat.le_trans hB b0.size;have fF:=hw.below b0;obtain⟨H,B0⟩:=hZ2 h0 b0;have HG:=qid (d9 W0 g h0.cells.1);have HI:=qid (GT id W0);rw[hs]at HI;have ah:dg D id=stO (D.2 id):=by unfold dg;rw[hs];rfl
 obtain⟨z,hz⟩:∃z,stO (D.2 id)=z:=⟨_,rfl⟩;rw[hz]at ah he;have aY:=qid (ol B W0 g n C D h0 id hi _ ah);subst he;clear ah hz;clear h hw hI b0 k0 h0 cG fF hK hV hi hB hn hk hs;go_enter Tryz.func11,Tryz.ntmps11;go_wp2_with fail
 try rw[aH]
 try rw[an]
 refine HG.out.mono ?_;rintro e w' ⟨rfl,rfl⟩;go_wp2_with fail;refine HI.out.mono ?_;rintro e w' ⟨rfl,rfl⟩;go_wp2_with fail;refine aY.out.mono ?_;rintro e w' ⟨rfl,rfl⟩;go_wp2
 go_ret2
 exact⟨_,rfl,RQ.nil _,StD.pre B0.out ((StD.refl H.out (Below.refl _ _)).mono (Nat.le_succ _))⟩
theorem Vh(B:Nat)(w:World)(g n:Nat)(C:Cdb)(D:Dbp)(h:CD B w g n C D)(hn:n≤9000)(hB:B≤w.heap.size)(id:Int)(hi:I9 id)(cl kd:Int)(nm:ByteArray)(K V:Int)(kb:Bool)(m:Int)(hw:Wq m w)(aZ:nm.size≤1000)(hK:f7 K)(hV:f7 V)(k:Nat)(hI:ce D k)(hk:k≤9000)(hs:isS id=true)(hc:cl=0)(he:stO (D.2 id)≠69):
  Calls Tryz.prog 11 #[SL.ptr g,.int .i64 id,.int .i64 cl,.agg #[.int .i64 kd,.string nm,.int .i64 K,.int .i64 V,.bool kb]] w (JZ B g (n+1) C (D,[],0) w):=by
 obtain⟨W0,aH⟩:∃W,w.alloc (.cells #[.int .i64 kd,.string nm,.int .i64 K,.int .i64 V,.bool kb] 34)=W:=⟨_,rfl⟩;obtain⟨cb,an⟩:∃b,w.heap.size=b:=⟨_,rfl⟩;have b0:Below w.heap.size w W0:=by rw[←aH];exact(Below.refl _ _).alloc (Nat.le_refl _) _
 have k0:SL.Bk W0 cb 34 #[.int .i64 kd,.string nm,.int .i64 K,.int .i64 V,.bool kb]:=by rw[←aH,←an];exact SL.Bk.new _ _ _
 have h0:=h.below b0;have cG:B≤W0.heap.size:=Nat.le_trans hB b0.size;have fF:=hw.below b0;obtain⟨H,B0⟩:=hZ2 h0 b0;have HG:=qid (d9 W0 g h0.cells.1);have HI:=qid (GT id W0);rw[hs]at HI;have ah:dg D id=stO (D.2 id):=by unfold dg;rw[hs];rfl
 obtain⟨z,hz⟩:∃z,stO (D.2 id)=z:=⟨_,rfl⟩;rw[hz]at ah he;have aY:=qid (ol B W0 g n C D h0 id hi _ ah);subst hc;clear ah hz;clear h hw hI b0 k0 h0 cG fF hK hV hi hB hn hk hs;go_enter Tryz.func11,Tryz.ntmps11;go_wp2_with fail
 try rw[aH]
 try rw[an]
 refine HG.out.mono ?_;rintro e w' ⟨rfl,rfl⟩;go_wp2_with fail;refine HI.out.mono ?_;rintro e w' ⟨rfl,rfl⟩;go_wp2_with fail;refine aY.out.mono ?_;rintro e w' ⟨rfl,rfl⟩;go_wp2
 go_ret2
 exact⟨_,rfl,RQ.nil _,StD.pre B0.out ((StD.refl H.out (Below.refl _ _)).mono (Nat.le_succ _))⟩
theorem Vi(B:Nat)(w:World)(g n:Nat)(C:Cdb)(D:Dbp)(h:CD B w g n C D)(hn:n≤9000)(hB:B≤w.heap.size)(id:Int)(hi:I9 id)(cl kd:Int)(nm:ByteArray)(K V:Int)(kb:Bool)(m:Int)(hw:Wq m w)(aZ:nm.size≤1000)(hK:f7 K)(hV:f7 V)(k:Nat)(hI:ce D k)(hk:k≤9000)(hs:isS id=true)(hc:cl=6)(he:stO (D.2 id)≠69):
  Calls Tryz.prog 11 #[SL.ptr g,.int .i64 id,.int .i64 cl,.agg #[.int .i64 kd,.string nm,.int .i64 K,.int .i64 V,.bool kb]] w (JZ B g (n+1) C (D,[],0) w):=by
 obtain⟨W0,aH⟩:∃W,w.alloc (.cells #[.int .i64 kd,.string nm,.int .i64 K,.int .i64 V,.bool kb] 34)=W:=⟨_,rfl⟩;obtain⟨cb,an⟩:∃b,w.heap.size=b:=⟨_,rfl⟩;have b0:Below w.heap.size w W0:=by rw[←aH];exact(Below.refl _ _).alloc (Nat.le_refl _) _
 have k0:SL.Bk W0 cb 34 #[.int .i64 kd,.string nm,.int .i64 K,.int .i64 V,.bool kb]:=by rw[←aH,←an];exact SL.Bk.new _ _ _
 have h0:=h.below b0;have cG:B≤W0.heap.size:=Nat.le_trans hB b0.size;have fF:=hw.below b0;obtain⟨H,B0⟩:=hZ2 h0 b0;have HG:=qid (d9 W0 g h0.cells.1);have HI:=qid (GT id W0);rw[hs]at HI;have ah:dg D id=stO (D.2 id):=by unfold dg;rw[hs];rfl
 obtain⟨z,hz⟩:∃z,stO (D.2 id)=z:=⟨_,rfl⟩;rw[hz]at ah he;have aY:=qid (ol B W0 g n C D h0 id hi _ ah);subst hc;clear ah hz;clear h hw hI b0 k0 h0 cG fF hK hV hi hB hn hk hs;go_enter Tryz.func11,Tryz.ntmps11;go_wp2_with fail
 try rw[aH]
 try rw[an]
 refine HG.out.mono ?_;rintro e w' ⟨rfl,rfl⟩;go_wp2_with fail;refine HI.out.mono ?_;rintro e w' ⟨rfl,rfl⟩;go_wp2_with fail;refine aY.out.mono ?_;rintro e w' ⟨rfl,rfl⟩;go_wp2
 go_ret2
 exact⟨_,rfl,RQ.nil _,StD.pre B0.out ((StD.refl H.out (Below.refl _ _)).mono (Nat.le_succ _))⟩
theorem XE(B:Nat)(w:World)(g n:Nat)(C:Cdb)(D:Dbp)(h:CD B w g n C D)(hn:n≤9000)(hB:B≤w.heap.size)(id:Int)(hi:I9 id)(cl kd:Int)(nm:ByteArray)(K V:Int)(kb:Bool)(m:Int)(hw:Wq m w)(aZ:nm.size≤1000)(hK:f7 K)(hV:f7 V)(k:Nat)(hI:ce D k)(hk:k≤9000)(hs:isS id=true)(hc:cl=1)(he:stO (D.2 id)≠69):
  Calls Tryz.prog 11 #[SL.ptr g,.int .i64 id,.int .i64 cl,.agg #[.int .i64 kd,.string nm,.int .i64 K,.int .i64 V,.bool kb]] w (JZ B g (n+1) C (if txB kd nm K V kb=true then doP D id kd nm K V kb else(D,[],1)) w):=by
 obtain⟨W0,aH⟩:∃W,w.alloc (.cells #[.int .i64 kd,.string nm,.int .i64 K,.int .i64 V,.bool kb] 34)=W:=⟨_,rfl⟩;obtain⟨cb,an⟩:∃b,w.heap.size=b:=⟨_,rfl⟩;have b0:Below w.heap.size w W0:=by rw[←aH];exact(Below.refl _ _).alloc (Nat.le_refl _) _
 have k0:SL.Bk W0 cb 34 #[.int .i64 kd,.string nm,.int .i64 K,.int .i64 V,.bool kb]:=by rw[←aH,←an];exact SL.Bk.new _ _ _
 have h0:=h.below b0;have cG:B≤W0.heap.size:=Nat.le_trans hB b0.size;have fF:=hw.below b0;obtain⟨H,B0⟩:=hZ2 h0 b0;have HG:=qid (d9 W0 g h0.cells.1);have HI:=qid (GT id W0);rw[hs]at HI;have ah:dg D id=stO (D.2 id):=by unfold dg;rw[hs];rfl
 obtain⟨z,hz⟩:∃z,stO (D.2 id)=z:=⟨_,rfl⟩;rw[hz]at ah he;have aY:=qid (ol B W0 g n C D h0 id hi _ ah);have y0:W0.cell? ⟨cb,0,none⟩=some (.int .i64 kd):=k0.cell 0;have y1:W0.cell? ⟨cb,1,none⟩=some (.string nm):=k0.cell 1;have y2:W0.cell? ⟨cb,2,none⟩=some (.int .i64 K):=k0.cell 2;have y3:W0.cell? ⟨cb,3,none⟩=some (.int .i64 V):=k0.cell 3;have y4:W0.cell? ⟨cb,4,none⟩=some (.bool kb):=k0.cell 4;subst hc;obtain⟨R,hR⟩:∃R,(if txB kd nm K V kb=true then doP D id kd nm K V kb else(D,[],(1:Int)))=R:=⟨_,rfl⟩
 have HX:Hid (Calls Tryz.prog 35 #[SL.ptr g,.int .i64 id,.agg #[.int .i64 kd,.string nm,.int .i64 K,.int .i64 V,.bool kb]] W0 (JZ B g (n+1) C R W0)):=qid (by
  rw[←hR]
  cases ht:txB kd nm K V kb with
  |true=>
   rw[if_pos rfl];exact O3 B W0 g n C D h0 (by omega) cG id hi kd nm K V kb m fF aZ hK hV k hI (by omega) ht
  |false=>
   rw[if_neg (by simp)]
   refine(RI B W0 g n C D h0 (by omega) cG id hi kd nm K V kb m fF aZ hK hV k hI (by omega) ht).mono ?_
   rintro e w' ⟨rv,h1,h2,h3⟩;exact⟨rv,h1,h2,h3.mono (Nat.le_succ _)⟩)
 rw[hR];clear ah hz hR;clear h hw hI b0 k0 h0 cG fF hK hV hi hB hn hk hs;go_enter Tryz.func11,Tryz.ntmps11;go_wp2_with fail
 try rw[aH]
 try rw[an]
 refine HG.out.mono ?_;rintro e w' ⟨rfl,rfl⟩;go_wp2_with fail;refine HI.out.mono ?_;rintro e w' ⟨rfl,rfl⟩;go_wp2_with fail;refine aY.out.mono ?_;rintro e w' ⟨rfl,rfl⟩;go_wp2_with fail;refine HX.out.mono ?_;rintro e w1 ⟨rv,rfl,hq,az⟩;obtain⟨HQ,dL⟩:=hZ2 hq az;obtain⟨ra,rc,rfl⟩:=hq.form;clear az hq y0 y1 y2 y3 y4;go_wp2
 go_ret2
 exact⟨_,rfl,HQ.out,StD.pre B0.out dL.out⟩
theorem Vj(B:Nat)(w:World)(g n:Nat)(C:Cdb)(D:Dbp)(h:CD B w g n C D)(hn:n≤9000)(hB:B≤w.heap.size)(id:Int)(hi:I9 id)(cl kd:Int)(nm:ByteArray)(K V:Int)(kb:Bool)(m:Int)(hw:Wq m w)(aZ:nm.size≤1000)(hK:f7 K)(hV:f7 V)(k:Nat)(hI:ce D k)(hk:k≤9000)(hs:isS id=true)(hc:cl=2)(he:stO (D.2 id)≠69):
  Calls Tryz.prog 11 #[SL.ptr g,.int .i64 id,.int .i64 cl,.agg #[.int .i64 kd,.string nm,.int .i64 K,.int .i64 V,.bool kb]] w (JZ B g (n+1) C (if txB kd nm K V kb=true then doP D id kd nm K V kb else(D,[],1)) w):=by
 obtain⟨W0,aH⟩:∃W,w.alloc (.cells #[.int .i64 kd,.string nm,.int .i64 K,.int .i64 V,.bool kb] 34)=W:=⟨_,rfl⟩;obtain⟨cb,an⟩:∃b,w.heap.size=b:=⟨_,rfl⟩;have b0:Below w.heap.size w W0:=by rw[←aH];exact(Below.refl _ _).alloc (Nat.le_refl _) _
 have k0:SL.Bk W0 cb 34 #[.int .i64 kd,.string nm,.int .i64 K,.int .i64 V,.bool kb]:=by rw[←aH,←an];exact SL.Bk.new _ _ _
 have h0:=h.below b0;have cG:B≤W0.heap.size:=Nat.le_trans hB b0.size;have fF:=hw.below b0;obtain⟨H,B0⟩:=hZ2 h0 b0;have HG:=qid (d9 W0 g h0.cells.1);have HI:=qid (GT id W0);rw[hs]at HI;have ah:dg D id=stO (D.2 id):=by unfold dg;rw[hs];rfl
 obtain⟨z,hz⟩:∃z,stO (D.2 id)=z:=⟨_,rfl⟩;rw[hz]at ah he;have aY:=qid (ol B W0 g n C D h0 id hi _ ah);have y0:W0.cell? ⟨cb,0,none⟩=some (.int .i64 kd):=k0.cell 0;have y1:W0.cell? ⟨cb,1,none⟩=some (.string nm):=k0.cell 1;have y2:W0.cell? ⟨cb,2,none⟩=some (.int .i64 K):=k0.cell 2;have y3:W0.cell? ⟨cb,3,none⟩=some (.int .i64 V):=k0.cell 3;have y4:W0.cell? ⟨cb,4,none⟩=some (.bool kb):=k0.cell 4;subst hc;obtain⟨R,hR⟩:∃R,(if txB kd nm K V kb=true then doP D id kd nm K V kb else(D,[],(1:Int)))=R:=⟨_,rfl⟩
 have HX:Hid (Calls Tryz.prog 35 #[SL.ptr g,.int .i64 id,.agg #[.int .i64 kd,.string nm,.int .i64 K,.int .i64 V,.bool kb]] W0 (JZ B g (n+1) C R W0)):=qid (by
  rw[←hR]
  cases ht:txB kd nm K V kb with
  |true=>
   rw[if_pos rfl];exact O3 B W0 g n C D h0 (by omega) cG id hi kd nm K V kb m fF aZ hK hV k hI (by omega) ht
  |false=>
   rw[if_neg (by simp)]
   refine(RI B W0 g n C D h0 (by omega) cG id hi kd nm K V kb m fF aZ hK hV k hI (by omega) ht).mono ?_
   rintro e w' ⟨rv,h1,h2,h3⟩;exact⟨rv,h1,h2,h3.mono (Nat.le_succ _)⟩)
 rw[hR];clear ah hz hR;clear h hw hI b0 k0 h0 cG fF hK hV hi hB hn hk hs;go_enter Tryz.func11,Tryz.ntmps11;go_wp2_with fail
 try rw[aH]
 try rw[an]
 refine HG.out.mono ?_;rintro e w' ⟨rfl,rfl⟩;go_wp2_with fail;refine HI.out.mono ?_;rintro e w' ⟨rfl,rfl⟩;go_wp2_with fail;refine aY.out.mono ?_;rintro e w' ⟨rfl,rfl⟩;go_wp2_with fail;refine HX.out.mono ?_;rintro e w1 ⟨rv,rfl,hq,az⟩;obtain⟨HQ,dL⟩:=hZ2 hq az;obtain⟨ra,rc,rfl⟩:=hq.form;clear az hq y0 y1 y2 y3 y4;go_wp2
 go_ret2
 exact⟨_,rfl,HQ.out,StD.pre B0.out dL.out⟩
theorem Qm(B:Nat)(w:World)(g n:Nat)(C:Cdb)(D:Dbp)(h:CD B w g n C D)(hn:n≤9000)(hB:B≤w.heap.size)(id:Int)(hi:I9 id)(cl kd:Int)(nm:ByteArray)(K V:Int)(kb:Bool)(m:Int)(hw:Wq m w)(aZ:nm.size≤1000)(hK:f7 K)(hV:f7 V)(k:Nat)(hI:ce D k)(hk:k≤9000)(hs:isS id=true)(hc:cl=8)(he:stO (D.2 id)≠69):
  Calls Tryz.prog 11 #[SL.ptr g,.int .i64 id,.int .i64 cl,.agg #[.int .i64 kd,.string nm,.int .i64 K,.int .i64 V,.bool kb]] w (JZ B g (n+1) C (if txB kd nm K V kb=true then doP D id kd nm K V kb else(D,[],1)) w):=by
 obtain⟨W0,aH⟩:∃W,w.alloc (.cells #[.int .i64 kd,.string nm,.int .i64 K,.int .i64 V,.bool kb] 34)=W:=⟨_,rfl⟩;obtain⟨cb,an⟩:∃b,w.heap.size=b:=⟨_,rfl⟩;have b0:Below w.heap.size w W0:=by rw[←aH];exact(Below.refl _ _).alloc (Nat.le_refl _) _
 have k0:SL.Bk W0 cb 34 #[.int .i64 kd,.string nm,.int .i64 K,.int .i64 V,.bool kb]:=by rw[←aH,←an];exact SL.Bk.new _ _ _
 have h0:=h.below b0;have cG:B≤W0.heap.size:=Nat.le_trans hB b0.size;have fF:=hw.below b0;obtain⟨H,B0⟩:=hZ2 h0 b0;have HG:=qid (d9 W0 g h0.cells.1);have HI:=qid (GT id W0);rw[hs]at HI;have ah:dg D id=stO (D.2 id):=by unfold dg;rw[hs];rfl
 obtain⟨z,hz⟩:∃z,stO (D.2 id)=z:=⟨_,rfl⟩;rw[hz]at ah he;have aY:=qid (ol B W0 g n C D h0 id hi _ ah);have y0:W0.cell? ⟨cb,0,none⟩=some (.int .i64 kd):=k0.cell 0;have y1:W0.cell? ⟨cb,1,none⟩=some (.string nm):=k0.cell 1;have y2:W0.cell? ⟨cb,2,none⟩=some (.int .i64 K):=k0.cell 2;have y3:W0.cell? ⟨cb,3,none⟩=some (.int .i64 V):=k0.cell 3;have y4:W0.cell? ⟨cb,4,none⟩=some (.bool kb):=k0.cell 4;subst hc;obtain⟨R,hR⟩:∃R,(if txB kd nm K V kb=true then doP D id kd nm K V kb else(D,[],(1:Int)))=R:=⟨_,rfl⟩
 have HX:Hid (Calls Tryz.prog 35 #[SL.ptr g,.int .i64 id,.agg #[.int .i64 kd,.string nm,.int .i64 K,.int .i64 V,.bool kb]] W0 (JZ B g (n+1) C R W0)):=qid (by
  rw[←hR]
  cases ht:txB kd nm K V kb with
  |true=>
   rw[if_pos rfl];exact O3 B W0 g n C D h0 (by omega) cG id hi kd nm K V kb m fF aZ hK hV k hI (by omega) ht
  |false=>
   rw[if_neg (by simp)]
   refine(RI B W0 g n C D h0 (by omega) cG id hi kd nm K V kb m fF aZ hK hV k hI (by omega) ht).mono ?_
   rintro e w' ⟨rv,h1,h2,h3⟩;exact⟨rv,h1,h2,h3.mono (Nat.le_succ _)⟩)
 rw[hR];clear ah hz hR;clear h hw hI b0 k0 h0 cG fF hK hV hi hB hn hk hs;go_enter Tryz.func11,Tryz.ntmps11;go_wp2_with fail
 try rw[aH]
 try rw[an]
 refine HG.out.mono ?_;rintro e w' ⟨rfl,rfl⟩;go_wp2_with fail;refine HI.out.mono ?_;rintro e w' ⟨rfl,rfl⟩;go_wp2_with fail;refine aY.out.mono ?_;rintro e w' ⟨rfl,rfl⟩;go_wp2_with fail;refine HX.out.mono ?_;rintro e w1 ⟨rv,rfl,hq,az⟩;obtain⟨HQ,dL⟩:=hZ2 hq az;obtain⟨ra,rc,rfl⟩:=hq.form;clear az hq y0 y1 y2 y3 y4;go_wp2
 go_ret2
 exact⟨_,rfl,HQ.out,StD.pre B0.out dL.out⟩
theorem XF(B:Nat)(w:World)(g n:Nat)(C:Cdb)(D:Dbp)(h:CD B w g n C D)(hn:n≤9000)(hB:B≤w.heap.size)(id:Int)(hi:I9 id)(cl kd:Int)(nm:ByteArray)(K V:Int)(kb:Bool)(m:Int)(hw:Wq m w)(aZ:nm.size≤1000)(hK:f7 K)(hV:f7 V)(k:Nat)(hI:ce D k)(hk:k≤9000)(hs:isS id=true)(h3:cl≠3)(h4:cl≠4)(h5:cl≠5)(Di:cl≠0)(h6:cl≠6)(h1:cl≠1)(h2:cl≠2)(h8:cl≠8)(he:stO (D.2 id)≠69):
  Calls Tryz.prog 11 #[SL.ptr g,.int .i64 id,.int .i64 cl,.agg #[.int .i64 kd,.string nm,.int .i64 K,.int .i64 V,.bool kb]] w (JZ B g (n+1) C (Hg D id,[],5) w):=by
 obtain⟨W0,aH⟩:∃W,w.alloc (.cells #[.int .i64 kd,.string nm,.int .i64 K,.int .i64 V,.bool kb] 34)=W:=⟨_,rfl⟩;obtain⟨cb,an⟩:∃b,w.heap.size=b:=⟨_,rfl⟩;have b0:Below w.heap.size w W0:=by rw[←aH];exact(Below.refl _ _).alloc (Nat.le_refl _) _
 have k0:SL.Bk W0 cb 34 #[.int .i64 kd,.string nm,.int .i64 K,.int .i64 V,.bool kb]:=by rw[←aH,←an];exact SL.Bk.new _ _ _
 have h0:=h.below b0;have cG:B≤W0.heap.size:=Nat.le_trans hB b0.size;have fF:=hw.below b0;obtain⟨H,B0⟩:=hZ2 h0 b0;have HG:=qid (d9 W0 g h0.cells.1);have HI:=qid (GT id W0);rw[hs]at HI;have ah:dg D id=stO (D.2 id):=by unfold dg;rw[hs];rfl
 obtain⟨z,hz⟩:∃z,stO (D.2 id)=z:=⟨_,rfl⟩;rw[hz]at ah he;have aY:=qid (ol B W0 g n C D h0 id hi _ ah);have HX:=qid (PS B W0 g n C D h0 cG id hi);clear ah hz;clear h hw hI b0 k0 h0 cG fF hK hV hi hB hn hk hs;go_enter Tryz.func11,Tryz.ntmps11;go_wp2_with fail
 try rw[aH]
 try rw[an]
 refine HG.out.mono ?_;rintro e w' ⟨rfl,rfl⟩;go_wp2_with fail;refine HI.out.mono ?_;rintro e w' ⟨rfl,rfl⟩;go_wp2_with fail;refine aY.out.mono ?_;rintro e w' ⟨rfl,rfl⟩;go_wp2_with fail;refine HX.out.mono ?_;rintro e w1 ⟨rfl,az⟩;have dL:=qid az;clear az;go_wp2
 go_ret2
 exact⟨_,rfl,RQ.nil _,StD.pre B0.out (dL.out.mono (Nat.le_succ _))⟩
theorem O4(B:Nat)(w:World)(g n:Nat)(C:Cdb)(D:Dbp)(h:CD B w g n C D)(hn:n≤9000)(hB:B≤w.heap.size)(id:Int)(hi:I9 id)(cl kd:Int)(nm:ByteArray)(K V:Int)(kb:Bool)(m:Int)(hw:Wq m w)(aZ:nm.size≤1000)(hK:f7 K)(hV:f7 V)(k:Nat)(hI:ce D k)(hk:k≤9000):
  Calls Tryz.prog 11 #[SL.ptr g,.int .i64 id,.int .i64 cl,.agg #[.int .i64 kd,.string nm,.int .i64 K,.int .i64 V,.bool kb]] w (JZ B g (n+1) C (Ic D id cl kd nm K V kb (txB kd nm K V kb)) w):=by
 unfold Ic
 cases hs:isS id with
 |false=>
  rw[if_neg (by simp)]
  exact XC B w g n C D h hn hB id hi cl kd nm K V kb m hw aZ hK hV k hI hk hs
 |true=>
  rw[if_pos rfl];unfold U4
  by_cases h3:cl=3
  ·rw[if_pos h3];exact Vg B w g n C D h hn hB id hi cl kd nm K V kb m hw aZ hK hV k hI hk hs h3
  rw[if_neg h3]
  by_cases h4:cl=4
  ·rw[if_pos h4];exact RL B w g n C D h hn hB id hi cl kd nm K V kb m hw aZ hK hV k hI hk hs h4
  rw[if_neg h4]
  by_cases h5:cl=5
  ·rw[if_pos h5];exact XD B w g n C D h hn hB id hi cl kd nm K V kb m hw aZ hK hV k hI hk hs h5
  rw[if_neg h5]
  by_cases he:stO (D.2 id)=69
  ·rw[if_pos he];exact ZX B w g n C D h hn hB id hi cl kd nm K V kb m hw aZ hK hV k hI hk hs h3 h4 h5 he
  rw[if_neg he]
  by_cases h0:cl=0
  ·rw[if_pos (.inl h0)];exact Vh B w g n C D h hn hB id hi cl kd nm K V kb m hw aZ hK hV k hI hk hs h0 he
  by_cases h6:cl=6
  ·rw[if_pos (.inr h6)];exact Vi B w g n C D h hn hB id hi cl kd nm K V kb m hw aZ hK hV k hI hk hs h6 he
  rw[if_neg (by omega)]
  by_cases h1:cl=1
  ·rw[if_pos (.inl h1)];exact XE B w g n C D h hn hB id hi cl kd nm K V kb m hw aZ hK hV k hI hk hs h1 he
  by_cases h2:cl=2
  ·rw[if_pos (.inr (.inl h2))];exact Vj B w g n C D h hn hB id hi cl kd nm K V kb m hw aZ hK hV k hI hk hs h2 he
  by_cases h8:cl=8
  ·rw[if_pos (.inr (.inr h8))];exact Qm B w g n C D h hn hB id hi cl kd nm K V kb m hw aZ hK hV k hI hk hs h8 he
  rw[if_neg (by omega)]
  exact XF B w g n C D h hn hB id hi cl kd nm K V kb m hw aZ hK hV k hI hk hs h3 h4 h5 h0 h6 h1 h2 h8 he
def qdf(B:Nat)(s:List Tb)(w:World)(e:Ending)(w':World):Prop:=∃g C,e=.returned (.tuple #[SL.ptr g,.int .i64 0])∧CD B w' g 0 C (s,fun _=>none)∧(∀b,C.own g b→w.heap.size≤b)∧Below w.heap.size w w'
theorem XG(v:Value)(s:List Tb)(w:World)(h:SR w v s)(hr:wt s=false):
  Calls Tryz.prog 6 #[v] w fun e w'=>e=.returned (.tuple #[.pointer none,.int .i64 4])∧Below w.heap.size w w':=by
 have HR:=qid (N0 v s w h);rw[hr]at HR;obtain⟨a,c,rfl⟩:=h.form;clear h hr;go_enter Tryz.func6,Tryz.ntmps6;go_wp2_with fail;refine HR.out.mono ?_;rintro e w1 ⟨rfl,aU⟩;have B1:=qid aU;clear aU;go_wp2
 go_ret2
 exact⟨rfl,B1.out⟩
theorem ZY(B:Nat)(v:Value)(s:List Tb)(w:World)(h:SR w v s)(hr:wt s=true)(hB:B≤w.heap.size):
  Calls Tryz.prog 6 #[v] w (qdf B s w):=by
 have hp:=(N1 s).1 hr;have hf:IK s:=(hp.tabs.ok (by have:=hp.len;omega)).few
 have HR:=qid (N0 v s w h);rw[hr]at HR;have HC:Hid (∀w1,Below w.heap.size w w1→Calls Tryz.prog 26 #[v] w1 (qbV s w1)):=qid fun w1 hb=>M3 v s w1 (h.below hb) hf
 have HB:=qid hB;obtain⟨a,c,rfl⟩:=h.form;clear h hr hp hf hB;go_enter Tryz.func6,Tryz.ntmps6;go_wp2_with fail;refine HR.out.mono ?_;rintro e w1 ⟨rfl,aU⟩;have B1:=qid aU;clear aU;go_wp2_with fail;refine(HC.out w1 B1.out).mono ?_;rintro e w2 ⟨g2,x,rfl,_,hx,hs,_,aA⟩;have HM:=qid (NS B _ s w2 (hx.sqE hs) (Nat.le_trans (Nat.le_trans HB.out B1.out.size) aA.size));have B2:=qid (B1.out.trans (aA.mono B1.out.size));clear hx hs aA;go_wp2_with fail;refine HM.out.mono ?_;rintro e w3 ⟨g,C,rfl,gb,aE,_,_,aG⟩;obtain⟨yh,iC⟩:=hZ2 gb aE;have B3:=qid (B2.out.trans (aG.mono B2.out.size));have HZ:=qid B2.out.size;clear gb aE aG;go_wp2
 go_ret2
 exact⟨g,C,rfl,yh.out,fun b hb=>Nat.le_trans HZ.out (iC.out b hb),B3.out⟩
def LD(w0 w:World)(g n:Nat)(D:Dbp):Prop:=∃C,CD w0.heap.size w g n C D∧Below w0.heap.size w0 w
section
variable {w0 w w':World} {g n m g2 n2:Nat} {D D' D2:Dbp}
theorem LD.bel(h:LD w0 w g n D):Below w0.heap.size w0 w:=by obtain⟨C,_,h⟩:=h;exact h
theorem LD.below(h:LD w0 w g n D)(hb:Below w.heap.size w w'):LD w0 w' g n D:=by
 obtain⟨C,h1,h2⟩:=h;exact⟨C,h1.below hb,h2.trans (hb.mono h2.size)⟩
theorem O5{B:Nat}{C:Cdb}(h:CD B w g n C D)(hB:B≤w.heap.size)(hs:StD B g m C D' w w'):Below B w w':=by
 obtain⟨C',_,h2,_⟩:=hs;exact h2.below hB fun b hb ho=>by have:=h.bs b ho;omega
theorem RM{B:Nat}{C:Cdb}(h:CD B w g n C D)(hs:StD B g m C D' w w'):Kc w w':=by
 obtain⟨C',_,h2,_⟩:=hs;exact h.kc h2 fun _ e=>e
theorem qcA{C:Cdb}(h:CD w0.heap.size w g n C D)(hb:Below w0.heap.size w0 w)(hs:StD w0.heap.size g m C D' w w'):LD w0 w' g m D'∧Kc w w':=by
 have h2:=O5 h hb.size hs;have h3:=RM h hs;obtain⟨C',h1,_,_⟩:=hs;exact⟨⟨C',h1,hb.trans h2⟩,h3⟩
def qdg(w0:World)(g n:Nat)(R:Dbp×List Rw×Int)(w:World)(e:Ending)(w':World):Prop:=∃rv,e=.returned (.tuple #[rv,.int .i64 R.2.2])∧RQ w' rv R.2.1∧LD w0 w' g n R.1∧Kc w w'
theorem Ja(h:LD w0 w g n D)(hn:n≤9000)(id:Int)(hi:I9 id)(cl kd:Int)(nm:ByteArray)(K V:Int)(kb:Bool)(m:Int)(hw:Wq m w)(aZ:nm.size≤1000)(hK:f7 K)(hV:f7 V)(k:Nat)(hI:ce D k)(hk:k≤9000)(R:Dbp×List Rw×Int)(hR:Ic D id cl kd nm K V kb (txB kd nm K V kb)=R):
  Calls Tryz.prog 11 #[SL.ptr g,.int .i64 id,.int .i64 cl,.agg #[.int .i64 kd,.string nm,.int .i64 K,.int .i64 V,.bool kb]] w (qdg w0 g (n+1) R w):=by
 subst hR;obtain⟨C,h1,h2⟩:=h;refine(O4 _ w g n C D h1 hn h2.size id hi cl kd nm K V kb m hw aZ hK hV k hI hk).mono ?_;rintro e w' ⟨rv,he,hq,hs⟩;obtain⟨a,b⟩:=qcA h1 h2 hs;exact⟨rv,he,hq,a,b⟩
theorem Mc(h:LD w0 w g n D)(id:Int)(hi:I9 id)(R:Int)(hR:dg D id=R):
  Calls Tryz.prog 16 #[SL.ptr g,.int .i64 id] w fun e w'=>e=.returned (.int .u8 R)∧w=w':=by
 obtain⟨C,h1,h2⟩:=h;exact ol _ w g n C D h1 id hi R hR
def qbO(s:List Tb)(w:World)(e:Ending)(w':World):Prop:=∃v,e=.returned v∧SQ w' v s∧Below w.heap.size w w'
theorem UV.q{s:List Tb}{e:Ending}(h:UV s w e w'):qbO s w e w':=by
 obtain⟨v,x,h1,h2,h3,h4⟩:=h;exact⟨v,h1,h2.sqE h3,h4⟩
theorem ZZ(h:LD w0 w g n D){k:Nat}(hI:ce D k)(S:List Tb)(hS:D.1=S):
  Calls Tryz.prog 15 #[SL.ptr g] w (qbO S w):=by
 subst hS;obtain⟨C,h1,h2⟩:=h;exact(Nx _ w g n C D h1 (hI.st.tabs.ok (by have:=hI.st.len;omega)).few).mono fun _ _ h=>h.q
theorem TE(h:LD w0 w g n D)(hn:n≤9000){k:Nat}(hI:ce D k)(hk:k≤9000)(id:Int)(hi:I9 id)(S:List Tb)(hS:d6 D id=S):
  Calls Tryz.prog 21 #[SL.ptr g,.int .i64 id] w (qbO S w):=by
 obtain⟨C,h1,h2⟩:=h;have eR:=hI.seen id;have hl:=hI.st.len;exact(MB _ w g n C D h1 (by omega) id hi hI.st.tabs.up (hI.ownT id).1.up (by omega) (eR.1.ok (by omega)).few S hS).mono fun _ _ h=>h.q
theorem TF(h:LD w0 w g n D)(hn:n≤9000){k:Nat}(hI:ce D k)(id:Int)(hi:I9 id)(R:List ByteArray)(hR:(JW (D.2 id)).map (·.1)=R):
  Calls Tryz.prog 19 #[SL.ptr g,.int .i64 id] w (Zw R w):=by
 obtain⟨C,h1,h2⟩:=h;exact PU _ w g n C D h1 (by omega) id hi (hI.ownT id).1.up R hR
theorem XH(v:Value)(s:List Tb)(h:SR w v s)(hr:wt s=true)(hb:Below w0.heap.size w0 w):
  Calls Tryz.prog 6 #[v] w fun e w'=>∃g,e=.returned (.tuple #[SL.ptr g,.int .i64 0])∧LD w0 w' g 0 (s,fun _=>none)∧Below w.heap.size w w':=by
 refine(ZY w0.heap.size v s w h hr hb.size).mono ?_;rintro e w' ⟨g,C,he,h1,h2,h3⟩;exact⟨g,he,⟨C,h1,hb.trans (h3.mono hb.size)⟩,h3⟩
theorem TG{s:List Tb}(h:wt s=true):ce (s,fun _=>none) 0:=⟨(N1 s).1 h,fun id p hp=>by cases hp⟩
theorem ce.runT{D:Dbp}{k:Nat}(h:ce D k)(id cl kd:Int)(nm:ByteArray)(K V:Int)(kb:Bool):ce (Ic D id cl kd nm K V kb (txB kd nm K V kb)).1 (k+1):=h.run id cl fun ht=>N3 ht
end
theorem Gz{m:Int}{w0 w:World}(h:Wq m w0)(hb:Below w0.heap.size w0 w):Wq m w:=h.below hb
end Go.Proofs.YtpgddamhdfmdjaaGreatDoor
