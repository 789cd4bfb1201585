import Derived.Test.YthdgiakgepmabaaGreatDk09
import Derived.Test.YthdgiakgepmabaaGreatDk13
namespace Go.Proofs.YthdgiakgepmabaaGreat
open Go.RowKit
set_option linter.unusedVariables false
set_option maxHeartbeats 6400000
set_option maxRecDepth 20000
section
attribute [local go_sem ↓] Go.wp_at_zero Go.wp_at_succ
theorem iu (mode:Int) (sum mxr:Bool) (satp:Int) (w:World) (h0:0<=satp) (h1:satp<=18446744073709551615):
 Calls Tryz.prog 158 #[io mode sum mxr satp] w fun e w'=>e=.returned (.bool (onM mode satp))∧Bw w w':=by
 unfold io;have b1:=(Below.refl w.heap.size w).alloc nle (Obj.cells #[VI mode,.bool sum,.bool mxr,VU satp] 110);have HS:Hid (satp/1152921504606846976=satp/1152921504606846976%16):=show _=_ by omega
 cases hs:(satp/1152921504606846976 == 8)
 ·go_enter Tryz.func158,Tryz.ntmps158;go_wp2;go_ret;exact ⟨aL (by rw [onM,<-HS.out,hs];rfl),b1⟩
 ·cases hm0:(mode == 0)
  ·go_enter Tryz.func158,Tryz.ntmps158;go_wp2;go_ret;exact ⟨aL (by rw [onM,<-HS.out,hs,hm0];rfl),b1⟩
  ·go_enter Tryz.func158,Tryz.ntmps158;go_wp2;go_ret;exact ⟨aL (by rw [onM,<-HS.out,hs,hm0];rfl),b1⟩
theorem fV (pte level mode:Int) (sum mxr:Bool) (satp kind va:Int) (w:World) (h0:0<=pte) (h1:pte<=18446744073709551615) (hv:0<=va) (hv':va<=18446744073709551615) (hl:level=0∨level=1∨level=2):
 Calls Tryz.prog 176 #[VU pte,VI level,io mode sum mxr satp,VI kind,VU va] w fun e w'=>
  e=.returned (.tuple #[VU (if cG pte kind mode sum mxr=true then fH pte level va else 0),cu (if cG pte kind mode sum mxr=true then 1 else 2)])∧Bw w w':=by
 unfold io;have b1:=(Below.refl w.heap.size w).alloc nle (Obj.cells #[VI mode,.bool sum,.bool mxr,VU satp] 110);cases hg:cG pte kind mode sum mxr
 ·have HG:=hid hg;clear hg;rw [if_neg (by simp),if_neg (by simp)];go_enter Tryz.func176,Tryz.ntmps176;go_wp2_with (go_at_call 167;refine (jF pte kind mode sum mxr _ h0 h1).mono ?_;rintro e w' ⟨rfl,rfl⟩;rw [HG.out]);exact bodyPost_ret (v:=.tuple #[VU 0,.iface 260 (.agg #[])]) (by simp [results,Tryz.results176,go_sem]) rfl ⟨rfl,b1⟩
 ·have HG:=hid hg;clear hg;rw [if_pos rfl,if_pos rfl];go_enter Tryz.func176,Tryz.ntmps176;go_wp2_with (first
   | (go_at_call 167;refine (jF pte kind mode sum mxr _ h0 h1).mono ?_;rintro e w' ⟨rfl,rfl⟩;rw [HG.out])
   | (go_at_call 181;refine (FL pte level va _ h0 h1 hl hv hv').mono ?_;rintro e w' ⟨rfl,rfl⟩))
  exact bodyPost_ret (v:=.tuple #[VU (fH pte level va),.nilIface]) (by simp [results,Tryz.results176,go_sem]) rfl ⟨rfl,b1⟩
theorem FY (w:World):(binOp .neq 251 (.iface 260 (.agg #[])) .nilIface).run Tryz.prog w=.ok (.bool true) w:=by kernel_rfl
theorem FZ (w:World):(binOp .neq 251 (.iface 261 (.agg #[])) .nilIface).run Tryz.prog w=.ok (.bool true) w:=by kernel_rfl
theorem F0 (w:World):(binOp .neq 251 .nilIface .nilIface).run Tryz.prog w=.ok (.bool false) w:=by kernel_rfl
def mR (r:Int × Int × Int × List aP) (mode:Int) (sum mxr:Bool) (kind va:Int):Int × Int:=
 if r.1=1 then (if cG r.2.2.1 kind mode sum mxr=true then (fH r.2.2.1 r.2.1 va,1) else (0,2)) else (0,r.1)
theorem pI {w w':World} {g:Nat} {o:Obj} (h:Hid (w.heap[g]?=some o)) (n:Bw w w') (l:g<w.heap.size):Hid (w'.heap[g]?=some o):=ae h.out n l
theorem uM (sv:Value) (zs:List Int) (mode:Int) (sum mxr:Bool) (satp kind va:Int) (w:World) (hB:SrcAt w sv zs) (hv0:0<=va) (hv1:va<=18446744073709551615) (hs0:0<=satp) (hs1:satp<=18446744073709551615) (hon:onM mode satp=true):
 Calls Tryz.prog 169 #[sv,io mode sum mxr satp,VI kind,VU va] w fun e w'=>
  e=.returned (.tuple #[VU (mR (bD zs satp va) mode sum mxr kind va).1,cu (mR (bD zs satp va) mode sum mxr kind va).2])∧Bw w w':=by
 have HB:=hid hB;have HTR:Hid (∀w,Calls Tryz.prog 158 #[.agg #[VI mode,.bool sum,.bool mxr,VU satp]] w fun e w'=>e=.returned (.bool true)∧Bw w w'):=fun w=>by have:=iu mode sum mxr satp w hs0 hs1;rw [hon] at this;exact this
 clear hon;have hcd:=kP zs satp va;have hbd:=sJ zs satp va hB.bd;clear hB;obtain ⟨X,hX⟩:∃X,bD zs satp va=X:=⟨_,rfl⟩;have HX:=hid hX;rw [hX] at hcd hbd |-;clear hX;obtain ⟨x1,x2,x3,rs⟩:=X;simp only at hcd hbd;unfold io;have b1:=(Below.refl w.heap.size w).alloc nle (Obj.cells #[VI mode,.bool sum,.bool mxr,VU satp] 110);have r1:Hid ((w.alloc (Obj.cells #[VI mode,.bool sum,.bool mxr,VU satp] 110)).heap[w.heap.size]?=some (.cells #[VI mode,.bool sum,.bool mxr,VU satp] 110 (0,0))):=fC w _;have l1:w.heap.size<(w.alloc (Obj.cells #[VI mode,.bool sum,.bool mxr,VU satp] 110)).heap.size:=by simp
 have q1:=FY;have q2:=FZ;have q3:=F0;rcases hcd with rfl | rfl | rfl
 ·obtain ⟨⟨y1,y2⟩,hY⟩:∃Y,mR (1,x2,x3,rs) mode sum mxr kind va=Y:=⟨_,rfl⟩;rw [hY];obtain ⟨fv,hfv⟩:∃fv,cu y2=fv:=⟨_,rfl⟩;have HTL:Hid (∀w,Calls Tryz.prog 176 #[VU x3,VI x2,.agg #[VI mode,.bool sum,.bool mxr,VU satp],VI kind,VU va] w fun e w'=>
   e=.returned (.tuple #[VU y1,fv])∧Bw w w'):=by
   intro w;have:=fV x3 x2 mode sum mxr satp kind va w hbd.1 hbd.2.1 hv0 hv1 (by omega);unfold io at this;rw [<-hfv];cases hg:cG x3 kind mode sum mxr
   ·simp [mR,hg] at hY;obtain ⟨rfl,rfl⟩:=hY;simpa [hg] using this
   ·simp [mR,hg] at hY;obtain ⟨rfl,rfl⟩:=hY;simpa [hg] using this
  rw [hfv];clear hY hfv;go_enter Tryz.func169,Tryz.ntmps169;go_wp2_with fail;generalize w.alloc (Obj.cells #[VI mode,.bool sum,.bool mxr,VU satp] 110)=v0 at b1 r1 l1 |-;refine (HTR.out v0).mono ?_;rintro e v1 ⟨rfl,n1⟩;replace r1:=pI r1 n1 l1;replace b1:=bst b1 n1;replace l1:=ltl l1 n1.size;clear n1;obtain ⟨⟨d0,d1,d2,d3⟩,e0,e1,e2,e3⟩:=aO r1.out;go_wp2_with fail;clear d0 d1 d2 d3 e0 e1 e2 e3;refine (gL sv zs va satp v1 (HB.out.keep b1) hv0 hv1 hs0 hs1).mono ?_;rintro e v2 ⟨hw,n2⟩;rw [HX.out] at hw;obtain ⟨ra,rc,rfl,o2⟩:=hw;clear o2;rw [show cu 1=.nilIface from rfl];have b2:=bst b1 n2;have r2:=hid (ae r1.out n2 l1);have l2:=ltl l1 n2.size;obtain ⟨⟨d0,d1,d2,d3⟩,e0,e1,e2,e3⟩:=aO r2.out;have b3:=b2.alloc (by omega) (Obj.cells #[VI x2,VU x3,.slice ra rs.length rc] 284);clear b1 r1 l1 n2;go_wp2_with fail;refine (HTL.out _).mono ?_;rintro e v4 ⟨rfl,n4⟩;have b4:=bst b3 n4;go_wp2_with fail;exact bodyPost_ret (v:=.tuple #[VU y1,fv]) (by simp [results,Tryz.results169,go_sem]) rfl ⟨rfl,b4⟩
 ·rw [show mR (2,x2,x3,rs) mode sum mxr kind va=(0,2) from rfl];rw [show cu 2=.iface 260 (.agg #[]) from rfl];go_enter Tryz.func169,Tryz.ntmps169;go_wp2_with fail;generalize w.alloc (Obj.cells #[VI mode,.bool sum,.bool mxr,VU satp] 110)=v0 at b1 r1 l1 |-;refine (HTR.out v0).mono ?_;rintro e v1 ⟨rfl,n1⟩;replace r1:=pI r1 n1 l1;replace b1:=bst b1 n1;replace l1:=ltl l1 n1.size;clear n1;obtain ⟨⟨d0,d1,d2,d3⟩,e0,e1,e2,e3⟩:=aO r1.out;go_wp2_with fail;clear d0 d1 d2 d3 e0 e1 e2 e3;refine (gL sv zs va satp v1 (HB.out.keep b1) hv0 hv1 hs0 hs1).mono ?_;rintro e v2 ⟨hw,n2⟩;rw [HX.out] at hw;obtain ⟨ra,rc,rfl,o2⟩:=hw;clear o2;rw [show cu 2=.iface 260 (.agg #[]) from rfl];have b2:=bst b1 n2;have r2:=hid (ae r1.out n2 l1);have l2:=ltl l1 n2.size;obtain ⟨⟨d0,d1,d2,d3⟩,e0,e1,e2,e3⟩:=aO r2.out;have b3:=b2.alloc (by omega) (Obj.cells #[VI x2,VU x3,.slice ra rs.length rc] 284);clear b1 r1 l1 n2;go_wp2_with fail;exact bodyPost_ret (v:=.tuple #[VU 0,.iface 260 (.agg #[])]) (by simp [results,Tryz.results169,go_sem]) rfl ⟨rfl,b3⟩
 ·rw [show mR (3,x2,x3,rs) mode sum mxr kind va=(0,3) from rfl];rw [show cu 3=.iface 261 (.agg #[]) from rfl];go_enter Tryz.func169,Tryz.ntmps169;go_wp2_with fail;generalize w.alloc (Obj.cells #[VI mode,.bool sum,.bool mxr,VU satp] 110)=v0 at b1 r1 l1 |-;refine (HTR.out v0).mono ?_;rintro e v1 ⟨rfl,n1⟩;replace r1:=pI r1 n1 l1;replace b1:=bst b1 n1;replace l1:=ltl l1 n1.size;clear n1;obtain ⟨⟨d0,d1,d2,d3⟩,e0,e1,e2,e3⟩:=aO r1.out;go_wp2_with fail;clear d0 d1 d2 d3 e0 e1 e2 e3;refine (gL sv zs va satp v1 (HB.out.keep b1) hv0 hv1 hs0 hs1).mono ?_;rintro e v2 ⟨hw,n2⟩;rw [HX.out] at hw;obtain ⟨ra,rc,rfl,o2⟩:=hw;clear o2;rw [show cu 3=.iface 261 (.agg #[]) from rfl];have b2:=bst b1 n2;have r2:=hid (ae r1.out n2 l1);have l2:=ltl l1 n2.size;obtain ⟨⟨d0,d1,d2,d3⟩,e0,e1,e2,e3⟩:=aO r2.out;have b3:=b2.alloc (by omega) (Obj.cells #[VI x2,VU x3,.slice ra rs.length rc] 284);clear b1 r1 l1 n2;go_wp2_with fail;exact bodyPost_ret (v:=.tuple #[VU 0,.iface 261 (.agg #[])]) (by simp [results,Tryz.results169,go_sem]) rfl ⟨rfl,b3⟩
theorem tw (sv:Value) (mode:Int) (sum mxr:Bool) (satp kind va:Int) (w:World) (hs0:0<=satp) (hs1:satp<=18446744073709551615) (hon:onM mode satp=false):
 Calls Tryz.prog 169 #[sv,io mode sum mxr satp,VI kind,VU va] w fun e w'=>
  e=.returned (.tuple #[VU va,cu 1])∧Bw w w':=by
 have HTR:Hid (∀w,Calls Tryz.prog 158 #[.agg #[VI mode,.bool sum,.bool mxr,VU satp]] w fun e w'=>e=.returned (.bool false)∧Bw w w'):=fun w=>by have:=iu mode sum mxr satp w hs0 hs1;rw [hon] at this;exact this
 clear hon;unfold io;obtain ⟨v0,Ev0,b1,_,_⟩:=al1 w #[VI mode,.bool sum,.bool mxr,VU satp] 110;rw [show cu 1=.nilIface from rfl];go_enter Tryz.func169,Tryz.ntmps169;go_wp2_with fail;rw [Ev0.out];clear Ev0;refine (HTR.out v0).mono ?_;rintro e v1 ⟨rfl,n1⟩;have b2:=bst b1 n1;go_wp2_with fail;exact bodyPost_ret (v:=.tuple #[VU va,.nilIface]) (by simp [results,Tryz.results169,go_sem]) rfl ⟨rfl,b2⟩
def gH (zs:List Int) (mode:Int) (sum mxr:Bool) (satp kind va:Int):Int × Int:=
 if onM mode satp=false then (va,1) else mR (bD zs satp va) mode sum mxr kind va
theorem tx (sv:Value) (zs:List Int) (mode:Int) (sum mxr:Bool) (satp kind va:Int) (w:World) (hB:SrcAt w sv zs) (hv0:0<=va) (hv1:va<=18446744073709551615) (hs0:0<=satp) (hs1:satp<=18446744073709551615):
 Calls Tryz.prog 169 #[sv,io mode sum mxr satp,VI kind,VU va] w fun e w'=>
  e=.returned (.tuple #[VU (gH zs mode sum mxr satp kind va).1,cu (gH zs mode sum mxr satp kind va).2])∧Bw w w':=by
 unfold gH;cases hon:onM mode satp
 ·rw [if_pos rfl];exact tw sv mode sum mxr satp kind va w hs0 hs1 hon
 ·rw [if_neg (by simp)];exact uM sv zs mode sum mxr satp kind va w hB hv0 hv1 hs0 hs1 hon
theorem yV (r:Int × Int × Int × List aP) (mode:Int) (sum mxr:Bool) (kind va:Int) (h:r.1=1∨r.1=2∨r.1=3):
 cK r mode sum mxr kind va=((if (mR r mode sum mxr kind va).2=1 then 0 else if (mR r mode sum mxr kind va).2=2 then eU kind else bO kind),(mR r mode sum mxr kind va).1):=by
 unfold cK mR fT;rcases h with h | h | h <;> rw [h]
 ·cases cG r.2.2.1 kind mode sum mxr <;> simp
 ·simp
 ·simp
theorem AW (r:Int × Int × Int × List aP) (mode:Int) (sum mxr:Bool) (kind va:Int) (h:r.1=1∨r.1=2∨r.1=3):
 (mR r mode sum mxr kind va).2=1∨(mR r mode sum mxr kind va).2=2∨(mR r mode sum mxr kind va).2=3:=by
 unfold mR;rcases h with h | h | h <;> rw [h]
 ·cases cG r.2.2.1 kind mode sum mxr <;> simp
 ·simp
 ·simp
end
def lz (c t:Int):PanicEntry:={ v:=.iface 92 (.agg #[VI c,VU t]),recovered:=false }
theorem GY {O X:Nat->Prop} {m:MP} {ov:Value} {h:HartM} {ol:List (Nat × Int)} (w:World) (k:MW w O X m ov h ol):
 Calls Tryz.prog 131 #[PT m.b 0] w fun e w'=>e=.returned (jR h)∧Bw w w':=by
 obtain ⟨v1,Ev1,F⟩:=ax1 w #[VI 0,.bool false,.bool false,VU 0] 110;have hb:=k.lt;have c9:=ab k.blk 9 (v:=VI h.mode) rfl;have c10:=ab k.blk 10 (v:=.bool h.sum) rfl;have c11:=ab k.blk 11 (v:=.bool h.mxr) rfl;have c12:=ab k.blk 12 (v:=VU h.satp) rfl;unfold jR;clear k;generalize m.b=b at *;go_enter Tryz.func131,Tryz.ntmps131;go_upto_region 1 with fail;rw [Ev1.out];clear Ev1;obtain ⟨h1,hz,n1⟩:=F;replace c9:=Below.cell2 n1 c9 hb;replace c10:=Below.cell2 n1 c10 hb;replace c11:=Below.cell2 n1 c11 hb;replace c12:=Below.cell2 n1 c12 hb;have k0:=ab h1 0 (v:=VI 0) rfl;have k1:=ab h1 1 (v:=.bool false) rfl;have k2:=ab h1 2 (v:=.bool false) rfl;have k3:=ab h1 3 (v:=VU 0) rfl;have f0:=ap h1 0;have f1:=ap h1 1;have f2:=ap h1 2;have f3:=ap h1 3;have b2:w.heap.size<v1.heap.size:=by omega
 have hb1:b<v1.heap.size:=by omega
 clear h1 hz;refine dl 17 (by kernel_rfl) (by kernel_rfl) ?_;simp only [List.take_succ_cons,List.take_zero,List.drop_succ_cons,List.drop_zero];repeat still_step
 refine wpStill_nil ?_;go_wp2_with fail;exact bodyPost_ret (v:=.agg #[VI h.mode,.bool h.sum,.bool h.mxr,VU h.satp]) (by simp [results,Tryz.results131,go_sem,k0,k1,k2,k3]) rfl ⟨rfl,cH (cH (cH (cH n1.drew (by omega) _ _) (by omega) _ _) (by omega) _ _) (by omega) _ _⟩
def GZ (plain:Bool) (pick:Int) (O X:Nat->Prop) (m:MP) (PA:World->RunM->Prop) (ov:Value) (ol:List (Nat × Int)) (r:RunM) (kind va size:Int) (w:World) (e:Ending) (w':World):Prop:=
 e=(if (aT plain pick r.h kind va).1.1=0 then .returned (.agg #[VI kind,VU va,VU (aT plain pick r.h kind va).1.2,VU size]) else .panicked [lz (aT plain pick r.h kind va).1.1 va])∧
 MW w' O X m ov (bf plain pick r kind va).h ol∧PA w' (bf plain pick r kind va)∧Kp X w w'
theorem kY {plain:Bool} {pick:Int} {h0:HartM} {O X:Nat->Prop} {PI:World->Prop} {PA:World->RunM->Prop} {m:MP} (hp:PathOk m plain pick h0 X PI PA) (hpk:0<=pick∧pick<=255) {ov:Value} {ol:List (Nat × Int)} (r:RunM) (kind va size:Int) (w:World)
 (k:MW w O X m ov r.h ol) (hA:PA w r) (hr:ROk r) (hc:SameC 2 r h0) (hk0:0<=kind) (hk2:kind<=2) (hv:inU va):
 Calls Tryz.prog 109 #[PT m.b 0,VI kind,VU va,VU size] w fun e w'=>GZ plain pick O X m PA ov ol r kind va size w e w':=by
 obtain ⟨v1,Ev1,F⟩:=ax1 w #[VI 0,VU 0,VU 0,VU 0] 227;have HK:Hid _:=k;have HA:Hid _:=hA;have HP:Hid _:=hp;have HR:Hid _:=hr;have HC:Hid _:=hc;have HSh:Hid (gX (aT plain pick r.h kind va).2 m.gi m.gd m.gp=gX r.h.k m.gi m.gd m.gp):=(wY hr.h plain hpk ⟨hk0,hk2⟩).set _ _ _;have hb:=k.lt;obtain ⟨hv0,hv1⟩:=hv;clear k hA hp hr hc;obtain ⟨b,hbm⟩:∃b,m.b=b:=⟨_,rfl⟩;have HBm:Hid _:=hbm;rw [hbm] at hb;rw [hbm];clear hbm;go_enter Tryz.func109,Tryz.ntmps109;go_upto_region 1 with fail;rw [Ev1.out];clear Ev1;obtain ⟨h1,hz,n1⟩:=F;have H1:Hid _:=h1;have K1:=hid (HK.out.low n1);have c29:v1.cell? (AD b 29)=some (.iface m.pd m.px):=by rw [<-HBm.out];exact ab K1.out.blk 29 rfl
 have hb1:b<v1.heap.size:=by omega
 have hbk:v1.heap[b]?=some (.cells (cJ r.h m.gm ov m.gi m.gd m.gp m.pv) 90 (0,0)):=by rw [<-HBm.out];exact K1.out.blk
 have CT:∀u:Has b (.cells (cJ r.h m.gm ov m.gi m.gd m.gp m.pv) 90 (0,0)),u.w.cell? (AD b 29)=some (.iface m.pd m.px):=fun u=>ab u.h 29 rfl;have ne:Nonempty (Has b (.cells (cJ r.h m.gm ov m.gi m.gd m.gp m.pv) 90 (0,0))):=⟨⟨v1,hbk⟩⟩;have HBk:Hid _:=hbk;clear h1 hz c29 hbk;generalize cJ r.h m.gm ov m.gi m.gd m.gp m.pv=A at CT ne HBk;refine ax (fun w'=>∃u:Has b (.cells A 90 (0,0)),w'=u.w) 21 ?_;refine eO (fuel:=7) ⟨⟨v1.drew,HBk.out⟩,rfl⟩ [0,1,2,3,4,5,6,7,8,9,10,12,13,14,15] ?_;simp only [gh,List.getElem?_toArray,List.getElem?_cons_zero,List.getElem?_cons_succ];repeat (go_big_quiet_step (fail))
 refine wpQuiet_nil ?_;have D1:=bdr v1;refine ep 11 23 rfl (f:=131) (args:=#[PT b 0]) ?_;rw [<-HBm.out];refine (GY v1.drew (K1.out.low D1)).mono ?_;rintro e v2 ⟨rfl,n2'⟩;rw [HBm.out];have n2:=bst D1 n2';have K2:=hid (K1.out.low n2);have n12:=bst n1 n2;have HB2:=hid (ah HBk n2);refine .inl ⟨_,rfl,fun _=>⟨⟨v2,HB2.out⟩,rfl⟩,?_⟩
 go_frame
 have H2:=ah H1 n2;have A2:=HP.out.keep HA.out (fun i hi=>(HK.out.xo i hi).2) (Kp.of_below (fun _=>False) n12) (fun _ _ h=>h);obtain ⟨fn,rv,hm,hen,hcall⟩:=HP.out.phys v2 r _ kind va A2 K2.out.cells (fun u hu=>Ea (K2.out.keep hu)) HC.out HR.out hk0 hk2 ⟨hv0,hv1⟩;rw [HBm.out] at hcall;have HM:Hid _:=hcall;clear hcall A2 n2';refine ep 16 28 rfl (f:=fn) (args:=#[rv,.iface 183 (PT b 18),jR r.h,VI kind,VU va]) ?_ (he:=by go_simp);refine Calls.mono HM.out ?_;rintro e v3 ⟨pa,code,rfl,hcode,hans,hA3,hk3⟩;have K3:=hid ((K2.out.keep hk3).withK HSh.out);have A3:Hid _:=hA3;have nx:¬X w.heap.size:=fun h=>by have:=(HK.out.xo _ h).2;omega
 have H3:=Kp.hid H2 hk3 nx;have KP:=hid ((Kp.of_below X n12).trans hk3);have l3:=(hpl H3.out);have q1:=FY;have q2:=FZ;have q3:=F0;have HB3:=hid (Kp.hid HB2 hk3 (by rw [<-HBm.out];exact HK.out.xb));refine .inl ⟨_,rfl,fun _=>⟨⟨v3,HB3.out⟩,rfl⟩,?_⟩
 go_frame
 refine eO (fuel:=1) ⟨⟨v3,HB3.out⟩,rfl⟩ [17,18,19,20] ?_;simp only [gh,List.getElem?_toArray,List.getElem?_cons_zero,List.getElem?_cons_succ];repeat (go_big_quiet_step (fail))
 refine wpQuiet_nil ?_;refine iR 21 10 (cu code) rfl (fun _=>⟨⟨v3,HB3.out⟩,rfl⟩) ?_
 go_frame
 refine dc ?_;clear hA3 hk3 HM n2 n12 H2 K2 K1 hm HB2 HB3 D1;have HT:=hid hans;clear hans CT ne HBk;rcases hcode with rfl | rfl | rfl
 ·rw [show cu 1=.nilIface from rfl];have k0:=ab H3.out 0 (v:=VI 0) rfl;have k1:=ab H3.out 1 (v:=VU 0) rfl;have k2:=ab H3.out 2 (v:=VU 0) rfl;have k3:=ab H3.out 3 (v:=VU 0) rfl;have f0:=ap H3.out 0;have f1:=ap H3.out 1;have f2:=ap H3.out 2;have f3:=ap H3.out 3;go_wp2_with fail;have g4:=gb4 v3 w.heap.size (VI kind) (VU va) (VU pa) (VU size);refine bodyPost_ret (v:=.agg #[VI kind,VU va,VU pa,VU size]) (by simp [results,Tryz.results109,go_sem,k0,k1,k2,k3]) rfl ⟨?_,HK.out.box K3.out g4 nle,HP.out.box A3.out (fun i hi=>(K3.out.xo i hi).2) g4 nx,KP.out.box g4 nle⟩;rw [HT.out];rfl
 ·rw [show cu 2=.iface 260 (.agg #[]) from rfl];have HCo:=hid (sD 2 kind v3 (by omega));go_wp2_with fail;refine Calls.mono HCo.out ?_;rintro e u ⟨rfl,hu⟩;rw [hu];clear hu u;go_wp2_with fail;refine ⟨rfl,?_,K3.out,A3.out,KP.out⟩;have ht:=congrArg Prod.fst HT.out;simp only at ht;rw [ht];exact (if_neg (Bh kind)).symm
 ·rw [show cu 3=.iface 261 (.agg #[]) from rfl];have HCo:=hid (sD 3 kind v3 (by omega));go_wp2_with fail;refine Calls.mono HCo.out ?_;rintro e u ⟨rfl,hu⟩;rw [hu];clear hu u;go_wp2_with fail;refine ⟨rfl,?_,K3.out,A3.out,KP.out⟩;have ht:=congrArg Prod.fst HT.out;simp only at ht;rw [ht];exact (if_neg (eX kind)).symm
theorem wJ (w:World):(method 417 65 (.agg #[]) "loop.example/s0051/impl.phys").run Tryz.prog w=.ok (160,.agg #[]) w:=by kernel_rfl
theorem uN (w:World):(method 417 65 (.agg #[]) "loop.example/s0051/impl.fence").run Tryz.prog w=.ok (187,.agg #[]) w:=by kernel_rfl
theorem uO (w:World):(method 417 65 (.agg #[]) "loop.example/s0051/impl.begin").run Tryz.prog w=.ok (154,.agg #[]) w:=by kernel_rfl
theorem yY (args:Array Value) (w:World):(callFunc 160 args).run Tryz.prog w=.ok (.enter 160 args) w:=by kernel_rfl
theorem wK (args:Array Value) (w:World):(callFunc 187 args).run Tryz.prog w=.ok (.enter 187 args) w:=by kernel_rfl
theorem qx (args:Array Value) (w:World):(callFunc 154 args).run Tryz.prog w=.ok (.enter 154 args) w:=by kernel_rfl
theorem rI (zs:List Int) (mode:Int) (sum mxr:Bool) (satp kind va:Int) (hk:0<=kind∧kind<=2) (hm:0<=mode∧mode<=2):
 fP zs mode sum mxr satp kind va=(if (gH zs mode sum mxr satp kind va).2=1 then 0 else if (gH zs mode sum mxr satp kind va).2=2 then eU kind else bO kind,(gH zs mode sum mxr satp kind va).1)∧((gH zs mode sum mxr satp kind va).2=1∨(gH zs mode sum mxr satp kind va).2=2∨(gH zs mode sum mxr satp kind va).2=3):=by
 have hcd:=kP zs satp va;refine ⟨?_,?_⟩
 ·unfold fP;rw [if_neg (by omega)];unfold gH;cases onM mode satp
  ·simp
  ·simp only [Bool.true_eq_false,if_false];exact yV (bD zs satp va) mode sum mxr kind va hcd
 ·unfold gH;cases onM mode satp
  ·simp
  ·simp only [Bool.true_eq_false,if_false];exact AW (bD zs satp va) mode sum mxr kind va hcd
theorem Ag (r:RunM) (sv:Value) (kind va:Int) (w:World) (hs:SrcAt w sv r.h.mem) (hr:ROk r) (hv:inU va):
 Calls Tryz.prog 160 #[.agg #[],sv,jR r.h,VI kind,VU va] w fun e w'=>e=.returned (.tuple #[VU (gH r.h.mem r.h.mode r.h.sum r.h.mxr r.h.satp kind va).1,cu (gH r.h.mem r.h.mode r.h.sum r.h.mxr r.h.satp kind va).2])∧Bw w w':=by
 have F:=jW w #[] #[VI r.h.mode,.bool r.h.sum,.bool r.h.mxr,VU r.h.satp] 65 110;have HS:Hid _:=hs;have hsp:=hr.h.satp;obtain ⟨hv0,hv1⟩:=hv;clear hs hr;generalize r.h.mem=zs at HS |-;unfold jR;generalize r.h.satp=satp at hsp F |-;generalize r.h.mode=mode at F |-;generalize r.h.sum=sum at F |-;generalize r.h.mxr=mxr at F |-;go_enter Tryz.func160,Tryz.ntmps160;go_upto_region 1 with fail;generalize (w.alloc (Obj.cells #[] 65)).alloc (Obj.cells #[VI mode,.bool sum,.bool mxr,VU satp] 110)=v1 at F |-;obtain ⟨f1,f2,f3,n1⟩:=F;have c0:=ab f2 0 (v:=VI mode) rfl;have c1:=ab f2 1 (v:=.bool sum) rfl;have c2:=ab f2 2 (v:=.bool mxr) rfl;have c3:=ab f2 3 (v:=VU satp) rfl;have HN1:Hid _:=n1;have HC:Hid _:=tx sv zs mode sum mxr satp kind va v1 (SrcAt.keep HS.out n1) hv0 hv1 hsp.1 hsp.2;unfold io at HC;clear f1 f2 f3 n1;go_wp2_with fail;refine Calls.mono HC.out ?_;rintro e v2 ⟨rfl,n2⟩;have HN2:=hid (bst HN1.out n2);obtain ⟨A,hA⟩:∃A,gH zs mode sum mxr satp kind va=A:=⟨_,rfl⟩;rw [hA];have HA:Hid _:=hA;clear hA n2 c0 c1 c2 c3;go_wp2_with fail;exact bodyPost_ret (v:=.tuple #[VU A.1,cu A.2]) (by simp [results,Tryz.results160,go_sem]) rfl ⟨by rw [HA.out],HN2.out⟩
theorem wL (pick:Int) (w:World):Calls Tryz.prog 154 #[.agg #[],VI pick] w fun e w'=>e=.returned (.tuple #[])∧Bw w w':=by
 have F:=bF w #[] 65;go_enter Tryz.func154,Tryz.ntmps154;go_wp2_with fail;exact ⟨rfl,.tuple #[],by kernel_rfl,rfl,F.2.2⟩
theorem CD (cv:Value) (w:World):Calls Tryz.prog 187 #[.agg #[],cv] w fun e w'=>e=.returned (.tuple #[])∧Bw w w':=by
 have F:=bF w #[] 65;go_enter Tryz.func187,Tryz.ntmps187;go_wp2_with fail;exact ⟨rfl,.tuple #[],by kernel_rfl,rfl,F.2.2⟩
theorem Em (x:Int) (w:World) (h0:0<=x) (h1:x<=18446744073709551615):
 Calls Tryz.prog 203 #[VU x] w fun e w'=>e=.returned (VU (dA x))∧w'=w:=by
 go_enter Tryz.func203,Tryz.ntmps203;go_wp2_with (go_at_call 179;refine (vi x _ h0 h1).mono ?_;rintro e w' ⟨rfl,rfl⟩);go_ret;exact ⟨rfl,rfl⟩
theorem kV (w:World) (x y:Obj):Bw w ((w.alloc x).alloc y):=((Below.refl w.heap.size w).alloc nle x).alloc (by simp) y
theorem mM (w:World) (A:Array Value) (T:TypeId) (B:Array Value) (U:TypeId) (k:Nat):∃v2,((w.alloc (Obj.cells A T)).alloc (Obj.cells B U)).drewN k=v2∧Hid (v2.heap[w.heap.size]?=some (.cells A T (0,0)))∧Hid (v2.heap[w.heap.size+1]?=some (.cells B U (0,0)))∧Bw w v2∧v2.heap.size=w.heap.size+2:=by
 refine ⟨_,rfl,?_,?_,below_drewN (kV _ _ _) k,?_⟩
 ·show ((w.alloc (Obj.cells A T)).alloc (Obj.cells B U)).heap[w.heap.size]?=_;rw [yw _ _ (by simp)];exact fC w _
 ·have:=fC (w.alloc (Obj.cells A T)) (Obj.cells B U);simp only [World.size_alloc] at this;exact this
 ·show ((w.alloc (Obj.cells A T)).alloc (Obj.cells B U)).heap.size=_;simp
theorem jB (x:Int) (w:World):(method 417 175 (VU x) "loop.example/s0051/impl.goodAt").run Tryz.prog w=.ok (207,VU x) w:=by kernel_rfl
theorem jC (x:Int) (w:World):(method 417 178 (VU x) "loop.example/s0051/impl.goodAt").run Tryz.prog w=.ok (208,VU x) w:=by kernel_rfl
def ym (z0:Nat):Prop:=∀(lv tg asd pt tm:Int) (gl:Bool) (w:World),Calls Tryz.prog z0 #[.agg #[.bool false,VI lv,VU tg,VU asd,.bool gl,VU pt]] w fun e w'=>e=.returned (.tuple #[dv cM,.bool false])∧Bw w w'
theorem AF:ym 102∧ym 104:=by
 refine ⟨?_,?_⟩;have mL:Hid True:=trivial
 rotate_left
 have mP:Hid True:=trivial
 rotate_left
 all_goals
  intro lv tg asd pt tm gl w;first
   | (replace mL:=mL;go_enter Tryz.func102,Tryz.ntmps102)
   | (replace mP:=mP;go_enter Tryz.func104,Tryz.ntmps104)
  go_wp2;go_quiet (fail);go_wp2_with fail;first
   | (replace mL:=mL;exact bodyPost_ret (v:=.tuple #[dv cM,.bool false]) (by simp [results,Tryz.results102,go_sem,dv,cM]) rfl ⟨rfl,jM (below_drewN (kV _ _ _) nq) (by omega) _ _ _ _ _ _⟩)
   | (replace mP:=mP;exact bodyPost_ret (v:=.tuple #[dv cM,.bool false]) (by simp [results,Tryz.results104,go_sem,dv,cM]) rfl ⟨rfl,jM (below_drewN (kV _ _ _) nq) (by omega) _ _ _ _ _ _⟩)
def yn (z0:Nat):Prop:=∀(lv tg asd pt tm:Int) (gl:Bool) (w:World) (HKL:Hid (∀w,Calls Tryz.prog 127 #[VI lv] w fun e w'=>e=.returned (.bool false)∧w'=w)),Calls Tryz.prog z0 #[.agg #[.bool true,VI lv,VU tg,VU asd,.bool gl,VU pt]] w fun e w'=>e=.returned (.tuple #[dv cM,.bool false])∧Bw w w'
theorem AG:yn 102∧yn 104:=by
 refine ⟨?_,?_⟩;have mL:Hid True:=trivial
 rotate_left
 have mP:Hid True:=trivial
 rotate_left
 all_goals
  intro lv tg asd pt tm gl w HKL;first
   | (replace mL:=mL;go_enter Tryz.func102,Tryz.ntmps102)
   | (replace mP:=mP;go_enter Tryz.func104,Tryz.ntmps104)
  go_wp2;go_quiet ((go_at_call 127;exact Calls.quiet_of_same (HKL.out _)));go_wp2_with fail;first
   | (replace mL:=mL;exact bodyPost_ret (v:=.tuple #[dv cM,.bool false]) (by simp [results,Tryz.results102,go_sem,dv,cM]) rfl ⟨rfl,jM (below_drewN (kV _ _ _) nq) (by omega) _ _ _ _ _ _⟩)
   | (replace mP:=mP;exact bodyPost_ret (v:=.tuple #[dv cM,.bool false]) (by simp [results,Tryz.results104,go_sem,dv,cM]) rfl ⟨rfl,jM (below_drewN (kV _ _ _) nq) (by omega) _ _ _ _ _ _⟩)
def yo (z0:Nat):Prop:=∀(lv tg asd pt tm:Int) (gl:Bool) (w:World) (HKL:Hid (∀w,Calls Tryz.prog 127 #[VI lv] w fun e w'=>e=.returned (.bool true)∧w'=w)) (HTM:Hid (∀w,Calls Tryz.prog 128 #[VI lv] w fun e w'=>e=.returned (VU tm)∧w'=w)) (h:¬(tg<=tm)),Calls Tryz.prog z0 #[.agg #[.bool true,VI lv,VU tg,VU asd,.bool gl,VU pt]] w fun e w'=>e=.returned (.tuple #[dv cM,.bool false])∧Bw w w'
theorem AI:yo 102∧yo 104:=by
 refine ⟨?_,?_⟩;have mL:Hid True:=trivial
 rotate_left
 have mP:Hid True:=trivial
 rotate_left
 all_goals
  intro lv tg asd pt tm gl w HKL HTM h;first
   | (replace mL:=mL;go_enter Tryz.func102,Tryz.ntmps102)
   | (replace mP:=mP;go_enter Tryz.func104,Tryz.ntmps104)
  go_wp2;go_quiet (first
   | (go_at_call 127;exact Calls.quiet_of_same (HKL.out _))
   | (go_at_call 128;exact Calls.quiet_of_same (HTM.out _)))
  go_wp2_with fail;first
   | (replace mL:=mL;exact bodyPost_ret (v:=.tuple #[dv cM,.bool false]) (by simp [results,Tryz.results102,go_sem,dv,cM]) rfl ⟨rfl,jM (below_drewN (kV _ _ _) nq) (by omega) _ _ _ _ _ _⟩)
   | (replace mP:=mP;exact bodyPost_ret (v:=.tuple #[dv cM,.bool false]) (by simp [results,Tryz.results104,go_sem,dv,cM]) rfl ⟨rfl,jM (below_drewN (kV _ _ _) nq) (by omega) _ _ _ _ _ _⟩)
def yq (z0:Nat):Prop:=∀(lv tg asd pt tm:Int) (gl:Bool) (w:World) (HKL:Hid (∀w,Calls Tryz.prog 127 #[VI lv] w fun e w'=>e=.returned (.bool true)∧w'=w)) (HTM:Hid (∀w,Calls Tryz.prog 128 #[VI lv] w fun e w'=>e=.returned (VU tm)∧w'=w)) (h:tg<=tm) (h2:¬(asd<=65535)),Calls Tryz.prog z0 #[.agg #[.bool true,VI lv,VU tg,VU asd,.bool gl,VU pt]] w fun e w'=>e=.returned (.tuple #[dv cM,.bool false])∧Bw w w'
theorem AJ:yq 102∧yq 104:=by
 refine ⟨?_,?_⟩;have mL:Hid True:=trivial
 rotate_left
 have mP:Hid True:=trivial
 rotate_left
 all_goals
  intro lv tg asd pt tm gl w HKL HTM h h2;first
   | (replace mL:=mL;go_enter Tryz.func102,Tryz.ntmps102)
   | (replace mP:=mP;go_enter Tryz.func104,Tryz.ntmps104)
  go_wp2;go_quiet (first
   | (go_at_call 127;exact Calls.quiet_of_same (HKL.out _))
   | (go_at_call 128;exact Calls.quiet_of_same (HTM.out _)))
  go_wp2_with fail;first
   | (replace mL:=mL;exact bodyPost_ret (v:=.tuple #[dv cM,.bool false]) (by simp [results,Tryz.results102,go_sem,dv,cM]) rfl ⟨rfl,jM (below_drewN (kV _ _ _) nq) (by omega) _ _ _ _ _ _⟩)
   | (replace mP:=mP;exact bodyPost_ret (v:=.tuple #[dv cM,.bool false]) (by simp [results,Tryz.results104,go_sem,dv,cM]) rfl ⟨rfl,jM (below_drewN (kV _ _ _) nq) (by omega) _ _ _ _ _ _⟩)
def yr (z0:Nat):Prop:=∀(lv tg asd pt tm:Int) (gl g5:Bool) (w:World) (HKL:Hid (∀w,Calls Tryz.prog 127 #[VI lv] w fun e w'=>e=.returned (.bool true)∧w'=w)) (HTM:Hid (∀w,Calls Tryz.prog 128 #[VI lv] w fun e w'=>e=.returned (VU tm)∧w'=w)) (h:tg<=tm) (h2:asd<=65535) (HB:Hid (∀w,Calls Tryz.prog 129 #[VU pt,VU 32] w fun e w'=>e=.returned (.bool g5)∧w'=w)) (hne:(gl == g5)=false),Calls Tryz.prog z0 #[.agg #[.bool true,VI lv,VU tg,VU asd,.bool gl,VU pt]] w fun e w'=>e=.returned (.tuple #[dv cM,.bool false])∧Bw w w'
theorem AK:yr 102∧yr 104:=by
 refine ⟨?_,?_⟩;have mL:Hid True:=trivial
 rotate_left
 have mP:Hid True:=trivial
 rotate_left
 all_goals
  intro lv tg asd pt tm gl g5 w HKL HTM h h2 HB hne;have hne2:(gl != g5)=true:=by simp [bne,hne]
  first
   | (replace mL:=mL;have hm:=jB pt)
   | (replace mP:=mP;have hm:=jC pt)
  first
   | (replace mL:=mL;go_enter Tryz.func102,Tryz.ntmps102)
   | (replace mP:=mP;go_enter Tryz.func104,Tryz.ntmps104)
  go_wp2;go_quiet (first
   | (go_at_call 127;exact Calls.quiet_of_same (HKL.out _))
   | (go_at_call 128;exact Calls.quiet_of_same (HTM.out _)))
  first
   | (replace mL:=mL;obtain ⟨v2,e2,P1,P2,B1,S1⟩:=mM w #[.bool true,VI lv,VU tg,VU asd,.bool gl,VU pt] 154 #[VI 0,VU 0,VU 0,.bool false,.bool false,VU 0] 216 nq)
   | (replace mP:=mP;obtain ⟨v2,e2,P1,P2,B1,S1⟩:=mM w #[.bool true,VI lv,VU tg,VU asd,.bool gl,VU pt] 154 #[VI 0,VU 0,VU 0,.bool false,.bool false,VU 0] 221 nq)
  rw [e2];clear e2;obtain ⟨⟨x0,x1,x2,x3,x4,x5⟩,_⟩:=iQ P1.out;obtain ⟨⟨y0,y1,y2,y3,y4,y5⟩,z0,z1,z2,z3,z4,z5⟩:=iQ P2.out;have ne1:v2.heap.size≠w.heap.size:=by omega
  have ne2:v2.heap.size≠w.heap.size+1:=by omega
  have ne3:w.heap.size<v2.heap.size:=by omega
  have ne4:w.heap.size+1<v2.heap.size:=by omega
  clear HKL HTM;go_wp2;go_quiet ((go_at_call 129;exact Calls.quiet_of_same (HB.out _)));go_wp2_with fail;first
   | (replace mL:=mL;exact bodyPost_ret (v:=.tuple #[dv cM,.bool false]) (by simp [results,Tryz.results102,go_sem,dv,cM,y0,y1,y2,y3,y4,y5]) rfl ⟨rfl,jM (below_drewN B1 _) (by omega) _ _ _ _ _ _⟩)
   | (replace mP:=mP;exact bodyPost_ret (v:=.tuple #[dv cM,.bool false]) (by simp [results,Tryz.results104,go_sem,dv,cM,y0,y1,y2,y3,y4,y5]) rfl ⟨rfl,jM (below_drewN B1 _) (by omega) _ _ _ _ _ _⟩)
def yt (z0:Nat) (z1:Nat):Prop:=∀(lv tg asd pt tm:Int) (gl:Bool) (w:World) (HKL:Hid (∀w,Calls Tryz.prog 127 #[VI lv] w fun e w'=>e=.returned (.bool true)∧w'=w)) (HTM:Hid (∀w,Calls Tryz.prog 128 #[VI lv] w fun e w'=>e=.returned (VU tm)∧w'=w)) (h:tg<=tm) (h2:asd<=65535) (HB:Hid (∀w,Calls Tryz.prog 129 #[VU pt,VU 32] w fun e w'=>e=.returned (.bool gl)∧w'=w)) (HGD:Hid (∀w,Calls Tryz.prog z0 #[VU pt,VI lv] w fun e w'=>e=.returned (.bool false)∧w'=w)),Calls Tryz.prog z1 #[.agg #[.bool true,VI lv,VU tg,VU asd,.bool gl,VU pt]] w fun e w'=>e=.returned (.tuple #[dv cM,.bool false])∧Bw w w'
theorem AM:yt 207 102∧yt 208 104:=by
 refine ⟨?_,?_⟩;have mL:Hid True:=trivial
 rotate_left
 have mP:Hid True:=trivial
 rotate_left
 all_goals
  intro lv tg asd pt tm gl w HKL HTM h h2 HB HGD;have hne2:(gl != gl)=false:=by simp
  first
   | (replace mL:=mL;have hm:=jB pt)
   | (replace mP:=mP;have hm:=jC pt)
  first
   | (replace mL:=mL;go_enter Tryz.func102,Tryz.ntmps102)
   | (replace mP:=mP;go_enter Tryz.func104,Tryz.ntmps104)
  go_wp2;go_quiet (first
   | (go_at_call 127;exact Calls.quiet_of_same (HKL.out _))
   | (go_at_call 128;exact Calls.quiet_of_same (HTM.out _)))
  first
   | (replace mL:=mL;obtain ⟨v2,e2,P1,P2,B1,S1⟩:=mM w #[.bool true,VI lv,VU tg,VU asd,.bool gl,VU pt] 154 #[VI 0,VU 0,VU 0,.bool false,.bool false,VU 0] 216 nq)
   | (replace mP:=mP;obtain ⟨v2,e2,P1,P2,B1,S1⟩:=mM w #[.bool true,VI lv,VU tg,VU asd,.bool gl,VU pt] 154 #[VI 0,VU 0,VU 0,.bool false,.bool false,VU 0] 221 nq)
  rw [e2];clear e2;obtain ⟨⟨x0,x1,x2,x3,x4,x5⟩,_⟩:=iQ P1.out;obtain ⟨⟨y0,y1,y2,y3,y4,y5⟩,z0,z1,z2,z3,z4,z5⟩:=iQ P2.out;have ne1:v2.heap.size≠w.heap.size:=by omega
  have ne2:v2.heap.size≠w.heap.size+1:=by omega
  have ne3:w.heap.size<v2.heap.size:=by omega
  have ne4:w.heap.size+1<v2.heap.size:=by omega
  clear HKL HTM;go_wp2_with fail;first
   | (replace mL:=mL;go_quiet (first
          | (go_at_call 129;exact Calls.quiet_of_same (HB.out _))
          | (go_at_call 207;exact Calls.quiet_of_same (HGD.out _))))
   | (replace mP:=mP;go_quiet (first
          | (go_at_call 129;exact Calls.quiet_of_same (HB.out _))
          | (go_at_call 208;exact Calls.quiet_of_same (HGD.out _))))
  go_wp2_with fail;first
   | (replace mL:=mL;exact bodyPost_ret (v:=.tuple #[dv cM,.bool false]) (by simp [results,Tryz.results102,go_sem,dv,cM,y0,y1,y2,y3,y4,y5]) rfl ⟨rfl,jM (below_drewN B1 _) (by omega) _ _ _ _ _ _⟩)
   | (replace mP:=mP;exact bodyPost_ret (v:=.tuple #[dv cM,.bool false]) (by simp [results,Tryz.results104,go_sem,dv,cM,y0,y1,y2,y3,y4,y5]) rfl ⟨rfl,jM (below_drewN B1 _) (by omega) _ _ _ _ _ _⟩)
def uv (z0:Nat) (z1:Nat):Prop:=∀(lv tg asd pt tm:Int) (gl:Bool) (w:World) (HKL:Hid (∀w,Calls Tryz.prog 127 #[VI lv] w fun e w'=>e=.returned (.bool true)∧w'=w)) (HTM:Hid (∀w,Calls Tryz.prog 128 #[VI lv] w fun e w'=>e=.returned (VU tm)∧w'=w)) (h:tg<=tm) (h2:asd<=65535) (HB:Hid (∀w,Calls Tryz.prog 129 #[VU pt,VU 32] w fun e w'=>e=.returned (.bool gl)∧w'=w)) (HGD:Hid (∀w,Calls Tryz.prog z0 #[VU pt,VI lv] w fun e w'=>e=.returned (.bool true)∧w'=w)),Calls Tryz.prog z1 #[.agg #[.bool true,VI lv,VU tg,VU asd,.bool gl,VU pt]] w fun e w'=>e=.returned (.tuple #[dv ⟨true,lv,tg,asd,gl,pt⟩,.bool true])∧Bw w w'
theorem yu:uv 207 102∧uv 208 104:=by
 refine ⟨?_,?_⟩;have mL:Hid True:=trivial
 rotate_left
 have mP:Hid True:=trivial
 rotate_left
 all_goals
  intro lv tg asd pt tm gl w HKL HTM h h2 HB HGD;have hne2:(gl != gl)=false:=by simp
  first
   | (replace mL:=mL;have hm:=jB pt)
   | (replace mP:=mP;have hm:=jC pt)
  first
   | (replace mL:=mL;go_enter Tryz.func102,Tryz.ntmps102)
   | (replace mP:=mP;go_enter Tryz.func104,Tryz.ntmps104)
  go_wp2;go_quiet (first
   | (go_at_call 127;exact Calls.quiet_of_same (HKL.out _))
   | (go_at_call 128;exact Calls.quiet_of_same (HTM.out _)))
  first
   | (replace mL:=mL;obtain ⟨v2,e2,P1,P2,B1,S1⟩:=mM w #[.bool true,VI lv,VU tg,VU asd,.bool gl,VU pt] 154 #[VI 0,VU 0,VU 0,.bool false,.bool false,VU 0] 216 nq)
   | (replace mP:=mP;obtain ⟨v2,e2,P1,P2,B1,S1⟩:=mM w #[.bool true,VI lv,VU tg,VU asd,.bool gl,VU pt] 154 #[VI 0,VU 0,VU 0,.bool false,.bool false,VU 0] 221 nq)
  rw [e2];clear e2;obtain ⟨⟨x0,x1,x2,x3,x4,x5⟩,_⟩:=iQ P1.out;obtain ⟨⟨y0,y1,y2,y3,y4,y5⟩,z0,z1,z2,z3,z4,z5⟩:=iQ P2.out;have ne1:v2.heap.size≠w.heap.size:=by omega
  have ne2:v2.heap.size≠w.heap.size+1:=by omega
  have ne3:w.heap.size<v2.heap.size:=by omega
  have ne4:w.heap.size+1<v2.heap.size:=by omega
  clear HKL HTM;go_wp2_with fail;first
   | (replace mL:=mL;go_quiet (first
          | (go_at_call 129;exact Calls.quiet_of_same (HB.out _))
          | (go_at_call 207;exact Calls.quiet_of_same (HGD.out _))))
   | (replace mP:=mP;go_quiet (first
          | (go_at_call 129;exact Calls.quiet_of_same (HB.out _))
          | (go_at_call 208;exact Calls.quiet_of_same (HGD.out _))))
  go_wp2_with fail;first
   | (replace mL:=mL;exact bodyPost_ret (v:=.tuple #[dv ⟨true,lv,tg,asd,gl,pt⟩,.bool true]) (by simp [results,Tryz.results102,go_sem,dv,y0,y1,y2,y3,y4,y5,ne4]) rfl ⟨rfl,(jM (below_drewN B1 nq) (by omega) _ _ _ _ _ _).alloc (by simp;omega) _⟩)
   | (replace mP:=mP;exact bodyPost_ret (v:=.tuple #[dv ⟨true,lv,tg,asd,gl,pt⟩,.bool true]) (by simp [results,Tryz.results104,go_sem,dv,y0,y1,y2,y3,y4,y5,ne4]) rfl ⟨rfl,(jM (below_drewN B1 nq) (by omega) _ _ _ _ _ _).alloc (by simp;omega) _⟩)
def ph (z0:Nat) (z1:Bool):Prop:=∀(x:EntM) (w:World) (hx:iH x),Calls Tryz.prog z0 #[GO x] w fun e w'=>e=.returned (.tuple #[dv (if bB x z1=true then x else cM),.bool (bB x z1)])∧Bw w w'
theorem qM:ph 102 false∧ph 104 true:=by
 refine ⟨?_,?_⟩;have mL:Hid True:=trivial
 rotate_left
 have mP:Hid True:=trivial
 rotate_left
 all_goals
  intro x w hx;obtain ⟨v,lv,tg,asd,gl,pt⟩:=x;obtain ⟨⟨a1,a2⟩,⟨b1,b2⟩,⟨c1,c2⟩,d1,d2⟩:=hx;simp only at a1 a2 b1 b2 c1 c2 d1 d2;unfold GO;simp only;cases v
  ·first
    | (replace mL:=mL;rw [show bB ⟨false,lv,tg,asd,gl,pt⟩ false=false by simp [bB]])
    | (replace mP:=mP;rw [show bB ⟨false,lv,tg,asd,gl,pt⟩ true=false by simp [bB]])
   first
    | (replace mL:=mL;exact AF.1 lv tg asd pt 0 gl w)
    | (replace mP:=mP;exact AF.2 lv tg asd pt 0 gl w)
  by_cases h0:¬(0<=lv∧lv<=2)
  ·first
    | (replace mL:=mL;rw [show bB ⟨true,lv,tg,asd,gl,pt⟩ false=false by simp [bB];omega])
    | (replace mP:=mP;rw [show bB ⟨true,lv,tg,asd,gl,pt⟩ true=false by simp [bB];omega])
   first
    | (replace mL:=mL;exact AG.1 lv tg asd pt 0 gl w (fun w=>by
         have:=dF lv w
         rw [show decide (0<=lv∧lv<=2)=false by simpa using h0] at this
         exact this))
    | (replace mP:=mP;exact AG.2 lv tg asd pt 0 gl w (fun w=>by
         have:=dF lv w
         rw [show decide (0<=lv∧lv<=2)=false by simpa using h0] at this
         exact this))
  have h0':0<=lv∧lv<=2:=Decidable.not_not.1 h0;have HKL:Hid (∀w,Calls Tryz.prog 127 #[VI lv] w fun e w'=>e=.returned (.bool true)∧w'=w):=fun w=>by
   have:=dF lv w;rw [show decide (0<=lv∧lv<=2)=true by simpa using h0'] at this;exact this
  obtain ⟨tm,htm⟩:∃tm,zA lv-1=tm:=⟨_,rfl⟩;have HTM:Hid (∀w,Calls Tryz.prog 128 #[VI lv] w fun e w'=>e=.returned (VU tm)∧w'=w):=fun w=>by
   have:=kK lv w (by omega);rw [htm] at this;exact this
  by_cases h1:¬(tg<=tm)
  ·first
    | (replace mL:=mL;rw [show bB ⟨true,lv,tg,asd,gl,pt⟩ false=false by simp [bB];omega])
    | (replace mP:=mP;rw [show bB ⟨true,lv,tg,asd,gl,pt⟩ true=false by simp [bB];omega])
   first
    | (replace mL:=mL;exact AI.1 lv tg asd pt tm gl w HKL HTM h1)
    | (replace mP:=mP;exact AI.2 lv tg asd pt tm gl w HKL HTM h1)
  have h1':tg<=tm:=Decidable.not_not.1 h1;by_cases h2:¬(asd<=65535)
  ·first
    | (replace mL:=mL;rw [show bB ⟨true,lv,tg,asd,gl,pt⟩ false=false by simp [bB];omega])
    | (replace mP:=mP;rw [show bB ⟨true,lv,tg,asd,gl,pt⟩ true=false by simp [bB];omega])
   first
    | (replace mL:=mL;exact AJ.1 lv tg asd pt tm gl w HKL HTM h1' h2)
    | (replace mP:=mP;exact AJ.2 lv tg asd pt tm gl w HKL HTM h1' h2)
  have h2':asd<=65535:=Decidable.not_not.1 h2;first
   | (replace mL:=mL;have hgood:bB ⟨true,lv,tg,asd,gl,pt⟩ false=((gl == bJ pt 32) && (aU pt lv == 2)):=by
        simp only [bB,qG]
        simp [h0'.1,h0'.2,h2',show tg<zA lv by omega])
   | (replace mP:=mP;have hgood:bB ⟨true,lv,tg,asd,gl,pt⟩ true=((gl == bJ pt 32) && (aU pt lv == 1)):=by
        simp only [bB,qG]
        simp [h0'.1,h0'.2,h2',show tg<zA lv by omega])
  rw [hgood];obtain ⟨g5,hg5⟩:∃g5,bJ pt 32=g5:=⟨_,rfl⟩;first
   | (replace mL:=mL;obtain ⟨gd,hgd⟩:∃gd,(aU pt lv == 2)=gd:=⟨_,rfl⟩)
   | (replace mP:=mP;obtain ⟨gd,hgd⟩:∃gd,(aU pt lv == 1)=gd:=⟨_,rfl⟩)
  have HB:Hid (∀w,Calls Tryz.prog 129 #[VU pt,VU 32] w fun e w'=>e=.returned (.bool g5)∧w'=w):=fun w=>by
   have:=dB pt 32 w;rw [dI 5 pt 32 rfl (by omega) d1 d2,hg5] at this;exact this
  first
   | (replace mL:=mL;have HGD:Hid (∀w,Calls Tryz.prog 207 #[VU pt,VI lv] w fun e w'=>e=.returned (.bool gd)∧w'=w):=fun w=>by
        have:=zv pt lv w d1 d2
        rw [hgd] at this
        exact this)
   | (replace mP:=mP;have HGD:Hid (∀w,Calls Tryz.prog 208 #[VU pt,VI lv] w fun e w'=>e=.returned (.bool gd)∧w'=w):=fun w=>by
        have:=zw pt lv w d1 d2
        rw [hgd] at this
        exact this)
  rw [hg5,hgd];cases hq:(gl == g5)
  ·first
    | (replace mL:=mL;exact AK.1 lv tg asd pt tm gl g5 w HKL HTM h1' h2' HB hq)
    | (replace mP:=mP;exact AK.2 lv tg asd pt tm gl g5 w HKL HTM h1' h2' HB hq)
  ·have hq':gl=g5:=by simpa using hq
   subst hq';cases gd
   ·first
     | (replace mL:=mL;exact AM.1 lv tg asd pt tm gl w HKL HTM h1' h2' HB HGD)
     | (replace mP:=mP;exact AM.2 lv tg asd pt tm gl w HKL HTM h1' h2' HB HGD)
   ·first
     | (replace mL:=mL;exact yu.1 lv tg asd pt tm gl w HKL HTM h1' h2' HB HGD)
     | (replace mP:=mP;exact yu.2 lv tg asd pt tm gl w HKL HTM h1' h2' HB HGD)
theorem pT (b o:Nat) (sets tag:Int) (w:World) (hs:sets=1∨sets=2∨sets=4∨sets=8) (c0:w.cell? (AD b o)=some (VI sets)) (ht:0<=tag) (ht1:tag<=18446744073709551615):
 Calls Tryz.prog 103 #[PT b o,VU tag] w fun e w'=>e=.returned (VI (tag%sets))∧w'=w:=by
 rcases hs with rfl | rfl | rfl | rfl;all_goals
  go_enter Tryz.func103,Tryz.ntmps103;go_wp2;go_ret;exact ⟨cx (by omega),rfl⟩
theorem pU (b o:Nat) (sets tag:Int) (w:World) (hs:sets=1∨sets=2∨sets=4∨sets=8) (c0:w.cell? (AD b o)=some (VI sets)) (ht:0<=tag) (ht1:tag<=18446744073709551615):
 Calls Tryz.prog 105 #[PT b o,VU tag] w fun e w'=>e=.returned (VI (tag%sets))∧w'=w:=by
 rcases hs with rfl | rfl | rfl | rfl;all_goals
  go_enter Tryz.func105,Tryz.ntmps105;go_wp2;go_ret;exact ⟨cx (by omega),rfl⟩
end Go.Proofs.YthdgiakgepmabaaGreat
