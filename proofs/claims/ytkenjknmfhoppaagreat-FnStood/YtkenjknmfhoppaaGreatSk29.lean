import Derived.Test.YtkenjknmfhoppaaGreatSk28
import Derived.Test.YtkenjknmfhoppaaGreatSk15
import Derived.BigRegion
namespace Go.Proofs.YtkenjknmfhoppaaGreat
open Go.RowKit
set_option linter.unusedVariables false
set_option maxHeartbeats 6400000
set_option maxRecDepth 20000
section
attribute [local go_sem ↓] Go.wp_at_zero Go.wp_at_succ
theorem jS (mode:Int) (sum mxr:Bool) (satp:Int) (w:World) (h0:0<=satp) (h1:satp<=18446744073709551615):
 Calls Tryz.prog 191 #[et mode sum mxr satp] w fun e w'=>e=.returned (.bool (onM mode satp))∧Bw w w':=by
 unfold et;have b1:=(Below.refl w.heap.size w).alloc nle (Obj.cells #[VI mode,.bool sum,.bool mxr,VU satp] 134);have HS:Hid (satp/1152921504606846976=satp/1152921504606846976%16):=show _=_ by omega
 cases hs:(satp/1152921504606846976 == 8)
 ·go_enter Tryz.func191,Tryz.ntmps191;go_wp2;go_ret;exact ⟨aD (by rw [onM,<-HS.out,hs];rfl),b1⟩
 ·cases hm0:(mode == 0)
  ·go_enter Tryz.func191,Tryz.ntmps191;go_wp2;go_ret;exact ⟨aD (by rw [onM,<-HS.out,hs,hm0];rfl),b1⟩
  ·go_enter Tryz.func191,Tryz.ntmps191;go_wp2;go_ret;exact ⟨aD (by rw [onM,<-HS.out,hs,hm0];rfl),b1⟩
theorem gV (pte level mode:Int) (sum mxr:Bool) (satp kind va:Int) (w:World) (h0:0<=pte) (h1:pte<=18446744073709551615) (hv:0<=va) (hv':va<=18446744073709551615) (hl:level=0∨level=1∨level=2):
 Calls Tryz.prog 209 #[VU pte,VI level,et mode sum mxr satp,VI kind,VU va] w fun e w'=>
  e=.returned (.tuple #[VU (if du pte kind mode sum mxr=true then gM pte level va else 0),cM (if du pte kind mode sum mxr=true then 1 else 2)])∧Bw w w':=by
 unfold et;have b1:=(Below.refl w.heap.size w).alloc nle (Obj.cells #[VI mode,.bool sum,.bool mxr,VU satp] 134);cases hg:du pte kind mode sum mxr
 ·have HG:=hid hg;clear hg;rw [if_neg (by simp),if_neg (by simp)];go_enter Tryz.func209,Tryz.ntmps209;go_wp2_with (go_at_call 200;refine (mE pte kind mode sum mxr _ h0 h1).mono ?_;rintro e w' ⟨rfl,rfl⟩;rw [HG.out]);exact bodyPost_ret (v:=.tuple #[VU 0,.iface 288 (.agg #[])]) (by simp [results,Tryz.results209,go_sem]) rfl ⟨rfl,b1⟩
 ·have HG:=hid hg;clear hg;rw [if_pos rfl,if_pos rfl];go_enter Tryz.func209,Tryz.ntmps209;go_wp2_with (first
   | (go_at_call 200;refine (mE pte kind mode sum mxr _ h0 h1).mono ?_;rintro e w' ⟨rfl,rfl⟩;rw [HG.out])
   | (go_at_call 214;refine (EO pte level va _ h0 h1 hl hv hv').mono ?_;rintro e w' ⟨rfl,rfl⟩))
  exact bodyPost_ret (v:=.tuple #[VU (gM pte level va),.nilIface]) (by simp [results,Tryz.results209,go_sem]) rfl ⟨rfl,b1⟩
theorem Fd (w:World):(binOp .neq 281 (.iface 288 (.agg #[])) .nilIface).run Tryz.prog w=.ok (.bool true) w:=by kernel_rfl
theorem Fe (w:World):(binOp .neq 281 (.iface 289 (.agg #[])) .nilIface).run Tryz.prog w=.ok (.bool true) w:=by kernel_rfl
theorem Ff (w:World):(binOp .neq 281 .nilIface .nilIface).run Tryz.prog w=.ok (.bool false) w:=by kernel_rfl
def nH (r:Int × Int × Int × List ef) (mode:Int) (sum mxr:Bool) (kind va:Int):Int × Int:=
 if r.1=1 then (if du r.2.2.1 kind mode sum mxr=true then (gM r.2.2.1 r.2.1 va,1) else (0,2)) else (0,r.1)
theorem qk {w w':World} {g:Nat} {o:Obj} (h:Hid (w.heap[g]?=some o)) (n:Bw w w') (l:g<w.heap.size):Hid (w'.heap[g]?=some o):=ag h.out n l
theorem vk (sv:Value) (zs:List Int) (mode:Int) (sum mxr:Bool) (satp kind va:Int) (w:World) (hB:SrcAt w sv zs) (hv0:0<=va) (hv1:va<=18446744073709551615) (hs0:0<=satp) (hs1:satp<=18446744073709551615) (hon:onM mode satp=true):
 Calls Tryz.prog 202 #[sv,et mode sum mxr satp,VI kind,VU va] w fun e w'=>
  e=.returned (.tuple #[VU (nH (dn zs satp va) mode sum mxr kind va).1,cM (nH (dn zs satp va) mode sum mxr kind va).2])∧Bw w w':=by
 have HB:=hid hB;have HTR:Hid (∀w,Calls Tryz.prog 191 #[.agg #[VI mode,.bool sum,.bool mxr,VU satp]] w fun e w'=>e=.returned (.bool true)∧Bw w w'):=fun w=>by have:=jS mode sum mxr satp w hs0 hs1;rw [hon] at this;exact this
 clear hon;have hcd:=kU zs satp va;have hbd:=sP zs satp va hB.bd;clear hB;obtain ⟨X,hX⟩:∃X,dn zs satp va=X:=⟨_,rfl⟩;have HX:=hid hX;rw [hX] at hcd hbd |-;clear hX;obtain ⟨x1,x2,x3,rs⟩:=X;simp only at hcd hbd;unfold et;have b1:=(Below.refl w.heap.size w).alloc nle (Obj.cells #[VI mode,.bool sum,.bool mxr,VU satp] 134);have r1:Hid ((w.alloc (Obj.cells #[VI mode,.bool sum,.bool mxr,VU satp] 134)).heap[w.heap.size]?=some (.cells #[VI mode,.bool sum,.bool mxr,VU satp] 134 (0,0))):=er w _;have l1:w.heap.size<(w.alloc (Obj.cells #[VI mode,.bool sum,.bool mxr,VU satp] 134)).heap.size:=by simp
 have q1:=Fd;have q2:=Fe;have q3:=Ff;rcases hcd with rfl | rfl | rfl
 ·obtain ⟨⟨y1,y2⟩,hY⟩:∃Y,nH (1,x2,x3,rs) mode sum mxr kind va=Y:=⟨_,rfl⟩;rw [hY];obtain ⟨fv,hfv⟩:∃fv,cM y2=fv:=⟨_,rfl⟩;have HTL:Hid (∀w,Calls Tryz.prog 209 #[VU x3,VI x2,.agg #[VI mode,.bool sum,.bool mxr,VU satp],VI kind,VU va] w fun e w'=>
   e=.returned (.tuple #[VU y1,fv])∧Bw w w'):=by
   intro w;have:=gV x3 x2 mode sum mxr satp kind va w hbd.1 hbd.2.1 hv0 hv1 (by omega);unfold et at this;rw [<-hfv];cases hg:du x3 kind mode sum mxr
   ·simp [nH,hg] at hY;obtain ⟨rfl,rfl⟩:=hY;simpa [hg] using this
   ·simp [nH,hg] at hY;obtain ⟨rfl,rfl⟩:=hY;simpa [hg] using this
  rw [hfv];clear hY hfv;go_enter Tryz.func202,Tryz.ntmps202;go_wp2_with fail;generalize w.alloc (Obj.cells #[VI mode,.bool sum,.bool mxr,VU satp] 134)=v0 at b1 r1 l1 |-;refine (HTR.out v0).mono ?_;rintro e v1 ⟨rfl,n1⟩;replace r1:=qk r1 n1 l1;replace b1:=bst b1 n1;replace l1:=ltl l1 n1.size;clear n1;obtain ⟨⟨d0,d1,d2,d3⟩,e0,e1,e2,e3⟩:=ay r1.out;go_wp2_with fail;clear d0 d1 d2 d3 e0 e1 e2 e3;refine (je sv zs va satp v1 (HB.out.keep b1) hv0 hv1 hs0 hs1).mono ?_;rintro e v2 ⟨hw,n2⟩;rw [HX.out] at hw;obtain ⟨ra,rc,rfl,o2⟩:=hw;clear o2;rw [show cM 1=.nilIface from rfl];have b2:=bst b1 n2;have r2:=hid (ag r1.out n2 l1);have l2:=ltl l1 n2.size;obtain ⟨⟨d0,d1,d2,d3⟩,e0,e1,e2,e3⟩:=ay r2.out;have b3:=b2.alloc (by omega) (Obj.cells #[VI x2,VU x3,.slice ra rs.length rc] 312);clear b1 r1 l1 n2;go_wp2_with fail;refine (HTL.out _).mono ?_;rintro e v4 ⟨rfl,n4⟩;have b4:=bst b3 n4;go_wp2_with fail;exact bodyPost_ret (v:=.tuple #[VU y1,fv]) (by simp [results,Tryz.results202,go_sem]) rfl ⟨rfl,b4⟩
 ·rw [show nH (2,x2,x3,rs) mode sum mxr kind va=(0,2) from rfl];rw [show cM 2=.iface 288 (.agg #[]) from rfl];go_enter Tryz.func202,Tryz.ntmps202;go_wp2_with fail;generalize w.alloc (Obj.cells #[VI mode,.bool sum,.bool mxr,VU satp] 134)=v0 at b1 r1 l1 |-;refine (HTR.out v0).mono ?_;rintro e v1 ⟨rfl,n1⟩;replace r1:=qk r1 n1 l1;replace b1:=bst b1 n1;replace l1:=ltl l1 n1.size;clear n1;obtain ⟨⟨d0,d1,d2,d3⟩,e0,e1,e2,e3⟩:=ay r1.out;go_wp2_with fail;clear d0 d1 d2 d3 e0 e1 e2 e3;refine (je sv zs va satp v1 (HB.out.keep b1) hv0 hv1 hs0 hs1).mono ?_;rintro e v2 ⟨hw,n2⟩;rw [HX.out] at hw;obtain ⟨ra,rc,rfl,o2⟩:=hw;clear o2;rw [show cM 2=.iface 288 (.agg #[]) from rfl];have b2:=bst b1 n2;have r2:=hid (ag r1.out n2 l1);have l2:=ltl l1 n2.size;obtain ⟨⟨d0,d1,d2,d3⟩,e0,e1,e2,e3⟩:=ay r2.out;have b3:=b2.alloc (by omega) (Obj.cells #[VI x2,VU x3,.slice ra rs.length rc] 312);clear b1 r1 l1 n2;go_wp2_with fail;exact bodyPost_ret (v:=.tuple #[VU 0,.iface 288 (.agg #[])]) (by simp [results,Tryz.results202,go_sem]) rfl ⟨rfl,b3⟩
 ·rw [show nH (3,x2,x3,rs) mode sum mxr kind va=(0,3) from rfl];rw [show cM 3=.iface 289 (.agg #[]) from rfl];go_enter Tryz.func202,Tryz.ntmps202;go_wp2_with fail;generalize w.alloc (Obj.cells #[VI mode,.bool sum,.bool mxr,VU satp] 134)=v0 at b1 r1 l1 |-;refine (HTR.out v0).mono ?_;rintro e v1 ⟨rfl,n1⟩;replace r1:=qk r1 n1 l1;replace b1:=bst b1 n1;replace l1:=ltl l1 n1.size;clear n1;obtain ⟨⟨d0,d1,d2,d3⟩,e0,e1,e2,e3⟩:=ay r1.out;go_wp2_with fail;clear d0 d1 d2 d3 e0 e1 e2 e3;refine (je sv zs va satp v1 (HB.out.keep b1) hv0 hv1 hs0 hs1).mono ?_;rintro e v2 ⟨hw,n2⟩;rw [HX.out] at hw;obtain ⟨ra,rc,rfl,o2⟩:=hw;clear o2;rw [show cM 3=.iface 289 (.agg #[]) from rfl];have b2:=bst b1 n2;have r2:=hid (ag r1.out n2 l1);have l2:=ltl l1 n2.size;obtain ⟨⟨d0,d1,d2,d3⟩,e0,e1,e2,e3⟩:=ay r2.out;have b3:=b2.alloc (by omega) (Obj.cells #[VI x2,VU x3,.slice ra rs.length rc] 312);clear b1 r1 l1 n2;go_wp2_with fail;exact bodyPost_ret (v:=.tuple #[VU 0,.iface 289 (.agg #[])]) (by simp [results,Tryz.results202,go_sem]) rfl ⟨rfl,b3⟩
theorem tH (sv:Value) (mode:Int) (sum mxr:Bool) (satp kind va:Int) (w:World) (hs0:0<=satp) (hs1:satp<=18446744073709551615) (hon:onM mode satp=false):
 Calls Tryz.prog 202 #[sv,et mode sum mxr satp,VI kind,VU va] w fun e w'=>
  e=.returned (.tuple #[VU va,cM 1])∧Bw w w':=by
 have HTR:Hid (∀w,Calls Tryz.prog 191 #[.agg #[VI mode,.bool sum,.bool mxr,VU satp]] w fun e w'=>e=.returned (.bool false)∧Bw w w'):=fun w=>by have:=jS mode sum mxr satp w hs0 hs1;rw [hon] at this;exact this
 clear hon;unfold et;obtain ⟨v0,Ev0,b1,_,_⟩:=al1 w #[VI mode,.bool sum,.bool mxr,VU satp] 134;rw [show cM 1=.nilIface from rfl];go_enter Tryz.func202,Tryz.ntmps202;go_wp2_with fail;rw [Ev0.out];clear Ev0;refine (HTR.out v0).mono ?_;rintro e v1 ⟨rfl,n1⟩;have b2:=bst b1 n1;go_wp2_with fail;exact bodyPost_ret (v:=.tuple #[VU va,.nilIface]) (by simp [results,Tryz.results202,go_sem]) rfl ⟨rfl,b2⟩
def jM (zs:List Int) (mode:Int) (sum mxr:Bool) (satp kind va:Int):Int × Int:=
 if onM mode satp=false then (va,1) else nH (dn zs satp va) mode sum mxr kind va
theorem tJ (sv:Value) (zs:List Int) (mode:Int) (sum mxr:Bool) (satp kind va:Int) (w:World) (hB:SrcAt w sv zs) (hv0:0<=va) (hv1:va<=18446744073709551615) (hs0:0<=satp) (hs1:satp<=18446744073709551615):
 Calls Tryz.prog 202 #[sv,et mode sum mxr satp,VI kind,VU va] w fun e w'=>
  e=.returned (.tuple #[VU (jM zs mode sum mxr satp kind va).1,cM (jM zs mode sum mxr satp kind va).2])∧Bw w w':=by
 unfold jM;cases hon:onM mode satp
 ·rw [if_pos rfl];exact tH sv mode sum mxr satp kind va w hs0 hs1 hon
 ·rw [if_neg (by simp)];exact vk sv zs mode sum mxr satp kind va w hB hv0 hv1 hs0 hs1 hon
theorem yU (r:Int × Int × Int × List ef) (mode:Int) (sum mxr:Bool) (kind va:Int) (h:r.1=1∨r.1=2∨r.1=3):
 db r mode sum mxr kind va=((if (nH r mode sum mxr kind va).2=1 then 0 else if (nH r mode sum mxr kind va).2=2 then eR kind else bP kind),(nH r mode sum mxr kind va).1):=by
 unfold db nH ft;rcases h with h | h | h <;> rw [h]
 ·cases du r.2.2.1 kind mode sum mxr <;> simp
 ·simp
 ·simp
theorem AJ (r:Int × Int × Int × List ef) (mode:Int) (sum mxr:Bool) (kind va:Int) (h:r.1=1∨r.1=2∨r.1=3):
 (nH r mode sum mxr kind va).2=1∨(nH r mode sum mxr kind va).2=2∨(nH r mode sum mxr kind va).2=3:=by
 unfold nH;rcases h with h | h | h <;> rw [h]
 ·cases du r.2.2.1 kind mode sum mxr <;> simp
 ·simp
 ·simp
end
def lK (c t:Int):PanicEntry:={ v:=.iface 99 (.agg #[VI c,VU t]),recovered:=false }
theorem Gb {O X:Nat->Prop} {m:MP} {ov:Value} {h:HartM} {ol:List (Nat × Int)} (w:World) (k:MW w O X m ov h ol):
 Calls Tryz.prog 166 #[PT m.b 0] w fun e w'=>e=.returned (rl h)∧Bw w w':=by
 obtain ⟨v1,Ev1,F⟩:=ax1 w #[VI 0,.bool false,.bool false,VU 0] 134;have hb:=k.lt;have c9:=ab k.blk 9 (v:=VI h.mode) rfl;have c10:=ab k.blk 10 (v:=.bool h.sum) rfl;have c11:=ab k.blk 11 (v:=.bool h.mxr) rfl;have c12:=ab k.blk 12 (v:=VU h.satp) rfl;unfold rl;clear k;generalize m.b=b at *;go_enter Tryz.func166,Tryz.ntmps166;go_upto_region 1 with fail;rw [Ev1.out];clear Ev1;obtain ⟨h1,hz,n1⟩:=F;replace c9:=Below.cell2 n1 c9 hb;replace c10:=Below.cell2 n1 c10 hb;replace c11:=Below.cell2 n1 c11 hb;replace c12:=Below.cell2 n1 c12 hb;have k0:=ab h1 0 (v:=VI 0) rfl;have k1:=ab h1 1 (v:=.bool false) rfl;have k2:=ab h1 2 (v:=.bool false) rfl;have k3:=ab h1 3 (v:=VU 0) rfl;have f0:=az h1 0;have f1:=az h1 1;have f2:=az h1 2;have f3:=az h1 3;have b2:w.heap.size<v1.heap.size:=by omega
 have hb1:b<v1.heap.size:=by omega
 clear h1 hz;refine dq 17 (by kernel_rfl) (by kernel_rfl) ?_;simp only [List.take_succ_cons,List.take_zero,List.drop_succ_cons,List.drop_zero];repeat still_step
 refine wpStill_nil ?_;go_wp2_with fail;exact bodyPost_ret (v:=.agg #[VI h.mode,.bool h.sum,.bool h.mxr,VU h.satp]) (by simp [results,Tryz.results166,go_sem,k0,k1,k2,k3]) rfl ⟨rfl,cU (cU (cU (cU n1.drew (by omega) _ _) (by omega) _ _) (by omega) _ _) (by omega) _ _⟩
def Gc (plain:Bool) (pick:Int) (O X:Nat->Prop) (m:MP) (PA:World->RunM->Prop) (ov:Value) (ol:List (Nat × Int)) (r:RunM) (kind va size:Int) (w:World) (e:Ending) (w':World):Prop:=
 e=(if (bu plain pick r.h kind va).1.1=0 then .returned (.agg #[VI kind,VU va,VU (bu plain pick r.h kind va).1.2,VU size]) else .panicked [lK (bu plain pick r.h kind va).1.1 va])∧
 MW w' O X m ov (bR plain pick r kind va).h ol∧PA w' (bR plain pick r kind va)∧Kp X w w'
theorem lj {plain:Bool} {pick:Int} {h0:HartM} {O X:Nat->Prop} {PI:World->Prop} {PA:World->RunM->Prop} {m:MP} (hp:PathOk m plain pick h0 X PI PA) (hpk:0<=pick∧pick<=255) {ov:Value} {ol:List (Nat × Int)} (r:RunM) (kind va size:Int) (w:World)
 (k:MW w O X m ov r.h ol) (hA:PA w r) (hr:ROk r) (hc:SameC 2 r h0) (hk0:0<=kind) (hk2:kind<=2) (hv:inU va):
 Calls Tryz.prog 143 #[PT m.b 0,VI kind,VU va,VU size] w fun e w'=>Gc plain pick O X m PA ov ol r kind va size w e w':=by
 obtain ⟨v1,Ev1,F⟩:=ax1 w #[VI 0,VU 0,VU 0,VU 0] 257;have HK:Hid _:=k;have HA:Hid _:=hA;have HP:Hid _:=hp;have HR:Hid _:=hr;have HC:Hid _:=hc;have HSh:Hid (iw (bu plain pick r.h kind va).2 m.gi m.gd m.gp=iw r.h.k m.gi m.gd m.gp):=(wX hr.h plain hpk ⟨hk0,hk2⟩).set _ _ _;have hb:=k.lt;obtain ⟨hv0,hv1⟩:=hv;clear k hA hp hr hc;obtain ⟨b,hbm⟩:∃b,m.b=b:=⟨_,rfl⟩;have HBm:Hid _:=hbm;rw [hbm] at hb;rw [hbm];clear hbm;go_enter Tryz.func143,Tryz.ntmps143;go_upto_region 1 with fail;rw [Ev1.out];clear Ev1;obtain ⟨h1,hz,n1⟩:=F;have H1:Hid _:=h1;have K1:=hid (HK.out.low n1);have c29:v1.cell? (AD b 29)=some (.iface m.pd m.px):=by rw [<-HBm.out];exact ab K1.out.blk 29 rfl
 have hb1:b<v1.heap.size:=by omega
 have hbk:v1.heap[b]?=some (.cells (cN r.h m.gm ov m.gi m.gd m.gp m.pv) 97 (0,0)):=by rw [<-HBm.out];exact K1.out.blk
 have CT:∀u:Has b (.cells (cN r.h m.gm ov m.gi m.gd m.gp m.pv) 97 (0,0)),u.w.cell? (AD b 29)=some (.iface m.pd m.px):=fun u=>ab u.h 29 rfl;have ne:Nonempty (Has b (.cells (cN r.h m.gm ov m.gi m.gd m.gp m.pv) 97 (0,0))):=⟨⟨v1,hbk⟩⟩;have HBk:Hid _:=hbk;clear h1 hz c29 hbk;generalize cN r.h m.gm ov m.gi m.gd m.gp m.pv=A at CT ne HBk;refine aN (fun w'=>∃u:Has b (.cells A 97 (0,0)),w'=u.w) 21 ?_;refine eZ (fuel:=7) ⟨⟨v1.drew,HBk.out⟩,rfl⟩ [0,1,2,3,4,5,6,7,8,9,10,12,13,14,15] ?_;simp only [gX,List.getElem?_toArray,List.getElem?_cons_zero,List.getElem?_cons_succ];repeat (go_big_quiet_step (fail))
 refine wpQuiet_nil ?_;have D1:=bdr v1;refine eh 11 23 rfl (f:=166) (args:=#[PT b 0]) ?_;rw [<-HBm.out];refine (Gb v1.drew (K1.out.low D1)).mono ?_;rintro e v2 ⟨rfl,n2'⟩;rw [HBm.out];have n2:=bst D1 n2';have K2:=hid (K1.out.low n2);have n12:=bst n1 n2;have HB2:=hid (ah HBk n2);refine .inl ⟨_,rfl,fun _=>⟨⟨v2,HB2.out⟩,rfl⟩,?_⟩
 go_frame
 have H2:=ah H1 n2;have A2:=HP.out.keep HA.out (fun i hi=>(HK.out.xo i hi).2) (Kp.of_below (fun _=>False) n12) (fun _ _ h=>h);obtain ⟨fn,rv,hm,hen,hcall⟩:=HP.out.phys v2 r _ kind va A2 K2.out.cells (fun u hu=>Dz (K2.out.keep hu)) HC.out HR.out hk0 hk2 ⟨hv0,hv1⟩;rw [HBm.out] at hcall;have HM:Hid _:=hcall;clear hcall A2 n2';refine eh 16 28 rfl (f:=fn) (args:=#[rv,.iface 212 (PT b 18),rl r.h,VI kind,VU va]) ?_ (he:=by go_simp);refine Calls.mono HM.out ?_;rintro e v3 ⟨pa,code,rfl,hcode,hans,hA3,hk3⟩;have K3:=hid ((K2.out.keep hk3).withK HSh.out);have A3:Hid _:=hA3;have nx:¬X w.heap.size:=fun h=>by have:=(HK.out.xo _ h).2;omega
 have H3:=Kp.hid H2 hk3 nx;have KP:=hid ((Kp.of_below X n12).trans hk3);have l3:=(hpl H3.out);have q1:=Fd;have q2:=Fe;have q3:=Ff;have HB3:=hid (Kp.hid HB2 hk3 (by rw [<-HBm.out];exact HK.out.xb));refine .inl ⟨_,rfl,fun _=>⟨⟨v3,HB3.out⟩,rfl⟩,?_⟩
 go_frame
 refine eZ (fuel:=1) ⟨⟨v3,HB3.out⟩,rfl⟩ [17,18,19,20] ?_;simp only [gX,List.getElem?_toArray,List.getElem?_cons_zero,List.getElem?_cons_succ];repeat (go_big_quiet_step (fail))
 refine wpQuiet_nil ?_;refine ik 21 10 (cM code) rfl (fun _=>⟨⟨v3,HB3.out⟩,rfl⟩) ?_
 go_frame
 refine dt ?_;clear hA3 hk3 HM n2 n12 H2 K2 K1 hm HB2 HB3 D1;have HT:=hid hans;clear hans CT ne HBk;rcases hcode with rfl | rfl | rfl
 ·rw [show cM 1=.nilIface from rfl];have k0:=ab H3.out 0 (v:=VI 0) rfl;have k1:=ab H3.out 1 (v:=VU 0) rfl;have k2:=ab H3.out 2 (v:=VU 0) rfl;have k3:=ab H3.out 3 (v:=VU 0) rfl;have f0:=az H3.out 0;have f1:=az H3.out 1;have f2:=az H3.out 2;have f3:=az H3.out 3;go_wp2_with fail;have g4:=gb4 v3 w.heap.size (VI kind) (VU va) (VU pa) (VU size);refine bodyPost_ret (v:=.agg #[VI kind,VU va,VU pa,VU size]) (by simp [results,Tryz.results143,go_sem,k0,k1,k2,k3]) rfl ⟨?_,HK.out.box K3.out g4 nle,HP.out.box A3.out (fun i hi=>(K3.out.xo i hi).2) g4 nx,KP.out.box g4 nle⟩;rw [HT.out];rfl
 ·rw [show cM 2=.iface 288 (.agg #[]) from rfl];have HCo:=hid (sK 2 kind v3 (by omega));go_wp2_with fail;refine Calls.mono HCo.out ?_;rintro e u ⟨rfl,hu⟩;rw [hu];clear hu u;go_wp2_with fail;refine ⟨rfl,?_,K3.out,A3.out,KP.out⟩;have ht:=congrArg Prod.fst HT.out;simp only at ht;rw [ht];exact (if_neg (AS kind)).symm
 ·rw [show cM 3=.iface 289 (.agg #[]) from rfl];have HCo:=hid (sK 3 kind v3 (by omega));go_wp2_with fail;refine Calls.mono HCo.out ?_;rintro e u ⟨rfl,hu⟩;rw [hu];clear hu u;go_wp2_with fail;refine ⟨rfl,?_,K3.out,A3.out,KP.out⟩;have ht:=congrArg Prod.fst HT.out;simp only at ht;rw [ht];exact (if_neg (fp kind)).symm
theorem DJ (x:Int) (w:World) (h0:0<=x) (h1:x<=18446744073709551615):
 Calls Tryz.prog 236 #[VU x] w fun e w'=>e=.returned (VU (dI x))∧w'=w:=by
 go_enter Tryz.func236,Tryz.ntmps236;go_wp2_with (go_at_call 212;refine (vH x _ h0 h1).mono ?_;rintro e w' ⟨rfl,rfl⟩);go_ret;exact ⟨rfl,rfl⟩
section
attribute [local go_sem ↓] Go.wp_at_zero Go.wp_at_succ
def tq (z0:Nat) (z1:Bool):Prop:=∀(b o g n:Nat) (t:TlbM) (va asid:Int) (w:World) (hn:t.es.length=n) (hn1:n<=1048576) (hv:aR t z1=true) (hbl:b<w.heap.size)
 (c0:w.cell? (AD b o)=some (VI t.sets)) (c1:w.cell? ⟨b,o+1,none⟩=some (VI t.ways)) (c2:w.cell? ⟨b,o+2,none⟩=some (SL g n n)) (hr:RowC w (some (AD g 0)) n 6 (aI t.es)) (hv0:0<=va) (hv1:va<=18446744073709551615),Calls Tryz.prog z0 #[PT b o,VU va,VU asid] w fun e w'=>e=.returned (.tuple #[VI (aY t va asid).2.1,.bool (aY t va asid).1])∧Bw w w'
theorem qI:tq 229 false∧tq 235 true:=by
 refine ⟨?_,?_⟩;have mL:=trivial
 rotate_left
 have mP:=trivial
 rotate_left
 all_goals
  intro b o g n t va asid w hn hn1 hv hbl c0 c1 c2 hr hv0 hv1;obtain ⟨hs4,hw1,hw4,hnw⟩:=yl hv;first
   | (replace mL:=mL;have HV:Hid (aR t false=true):=hv)
   | (replace mP:=mP;have HV:Hid (aR t true=true):=hv)
  have HEi:=hid (ee hv);have HR:=hid hr;have HN:=hid hn;have HNw:Hid ((n:Int)=t.sets*t.ways):=by show _=_;rw [<-hn];exact hnw
  obtain ⟨X,hX⟩:∃X,aY t va asid=X:=⟨_,rfl⟩;have HX:=hid hX;rw [hX];clear hX hv hr hnw hn;obtain ⟨sets,ways,es⟩:=t;simp only at *;first
   | (replace mL:=mL;go_enter Tryz.func229,Tryz.ntmps229)
   | (replace mP:=mP;go_enter Tryz.func235,Tryz.ntmps235)
  go_wp2;go_loopw [12] (fun i wr=>∃l:Nat,l<=3∧i=VI l∧Hid (∀l':Nat,l'<l->eo va asid l' 0 es=none)∧Bw w wr) (fun i _=>3-(intOf i).toNat)
  case atStart=>exact ⟨0,by omega,rfl,fun l' h=>absurd h (by omega),brf⟩
  case round=>
   obtain ⟨l,hl,rfl,HF,hb⟩:=hrel;by_cases hlt:l<3
   ·have hl3:(l:Int)=0∨(l:Int)=1∨(l:Int)=2:=by omega
    obtain ⟨tm,htm⟩:∃tm,gx va l=tm:=⟨_,rfl⟩;have htb:=te va l hl3;rw [htm] at htb;obtain ⟨sx,hsx⟩:∃sx,tm%sets=sx:=⟨_,rfl⟩;have hsb:0<=sx∧sx<sets:=by rw [<-hsx];exact ⟨Int.emod_nonneg _ (by omega),Int.emod_lt_of_pos _ (by omega)⟩
    obtain ⟨f,hf⟩:∃f:Nat,(f:Int)=sx*ways:=⟨(sx*ways).toNat,Int.toNat_of_nonneg (Int.mul_nonneg hsb.1 (by omega))⟩;have hfn:(f:Int)+ways<=n:=by
     rw [HNw.out,hf];have:(sx+1)*ways<=sets*ways:=Int.mul_le_mul_of_nonneg_right (by omega) (by omega);rw [Int.add_mul,Int.one_mul] at this;exact this
    have HFi:Hid ((f:Int)=gx va l%sets*ways):=by show _=_;rw [htm,hsx];exact hf
    have HWm:=hid hf.symm;have r0:=Below.cell2 hb c0 hbl;have r1:=Below.cell2 hb c1 hbl;have HTg:Hid (∀u,Calls Tryz.prog 168 #[VU va,VI l] u fun e w'=>e=.returned (VU tm)∧∃q,w'=u.drewN q):=fun u=>by
     have:=zl va l u hv0 hv1 hl3;rw [htm] at this;exact this
    first
     | (replace mL:=mL;have HSt:Hid (∀q,Calls Tryz.prog 137 #[PT b o,VU tm] (wr.drewN q) fun e w'=>e=.returned (VI sx)∧w'=wr.drewN q):=fun q=>by
          have:=qw b o sets tm (wr.drewN q) hs4 r0 htb.1 (by omega)
          rw [hsx] at this
          exact this)
     | (replace mP:=mP;have HSt:Hid (∀q,Calls Tryz.prog 139 #[PT b o,VU tm] (wr.drewN q) fun e w'=>e=.returned (VI sx)∧w'=wr.drewN q):=fun q=>by
          have:=qx b o sets tm (wr.drewN q) hs4 r0 htb.1 (by omega)
          rw [hsx] at this
          exact this)
    clear htm hsx;go_wp2;go_cut [9] (fun s9 wx=>s9=VI f∧∃q,wx=wr.drewN q)
    case first=>
     first
      | (replace mL:=mL;go_quiet (first
           | (go_at_call 168;exact Calls.quiet_of (HTg.out _))
           | (go_at_call 137;exact Calls.quiet_of_same (HSt.out _))))
      | (replace mP:=mP;go_quiet (first
           | (go_at_call 168;exact Calls.quiet_of (HTg.out _))
           | (go_at_call 139;exact Calls.quiet_of_same (HSt.out _))))
     go_wp2;go_meet;exact ⟨by rw [HWm.out],nq,rfl⟩
    case rest=>
     obtain ⟨rfl,q,rfl⟩:=hcut;have hb2:Bw w (wr.drewN q):=below_drewN hb q;generalize wr.drewN q=v2 at hb2 |-;clear r0 r1 hb HTg HSt HWm hsb hf;go_wp2_with fail;rename_i wr0;go_loopw [10] (fun i wr=>∃q:Nat,f<=q∧(q:Int)<=f+ways∧i=VI q∧Hid (∀(q':Nat) x,f<=q'->q'<q->es[q']?=some x->iB va asid l x=false)∧Bw w wr) (fun i _=>f+4-(intOf i).toNat)
     case atStart=>exact ⟨f,nle,by omega,rfl,fun q' x h h'=>absurd h' (by omega),hb2⟩
     case round=>
      obtain ⟨q,hq1,hq2,rfl,HQ,hb3⟩:=hrel;have r1:wr.cell? ⟨b,o+1,none⟩=some (VI ways):=Below.cell2 hb3 c1 hbl;have r2:wr.cell? ⟨b,o+2,none⟩=some (SL g n n):=Below.cell2 hb3 c2 hbl;by_cases hqt:(q:Int)<f+ways
      ·have hqn:q<n:=by omega
       obtain ⟨⟨vv,lv,tg,asd,gl,pt⟩,hx⟩:∃x,es[q]?=some x:=⟨_,geg (by rw [HN.out];exact hqn)⟩;have HXq:Hid (es[q]?=some ⟨vv,lv,tg,asd,gl,pt⟩):=hx;have CE:∀j u,j<6->(fG ⟨vv,lv,tg,asd,gl,pt⟩)[j]?=some u->wr.cell? ⟨g,q*6+j,none⟩=some u:=fun j u hj hu=>io (HR.out.keep hb3) HN.out q _ hx j u hj hu;have g0:wr.cell? ⟨g,q*6,none⟩=some (VI lv):=CE 0 _ (by omega) rfl;have g1:wr.cell? ⟨g,q*6+1,none⟩=some (VU tg):=CE 1 _ (by omega) rfl;have g2:wr.cell? ⟨g,q*6+2,none⟩=some (VU asd):=CE 2 _ (by omega) rfl;have g3:wr.cell? ⟨g,q*6+3,none⟩=some (.bool gl):=CE 3 _ (by omega) rfl;have g4:wr.cell? ⟨g,q*6+4,none⟩=some (.bool vv):=CE 4 _ (by omega) rfl;have HNx:Hid (iB va asid l ⟨vv,lv,tg,asd,gl,pt⟩=false->∀(q':Nat) x,f<=q'->q'<q+1->es[q']?=some x->iB va asid l x=false):=fun h q' x h1 h2 h3=>by
        by_cases e:q'=q
        ·subst e;rw [HXq.out] at h3;cases h3;exact h
        ·exact HQ.out q' x h1 (by omega) h3
       clear CE hx;cases vv
       ·go_wp2;go_roundw
        case rel=>exact ⟨q+1,by omega,by omega,by go_num,HNx.out (by simp [iB,mj]),hb3⟩
        case measure=>simp [intOf];omega
       ·by_cases hlv:lv=l
        ·subst hlv;obtain ⟨fb,hfb⟩:∃fb,((tg == gx va l) && (gl || asd == asid))=fb:=⟨_,rfl⟩;have HFt:Hid (∀u,Calls Tryz.prog 231 #[.agg #[VI l,VU tg,VU asd,.bool gl],VU va,VU asid] u fun e w'=>e=.returned (.bool fb)∧Bw u w'):=fun u=>by
          have:=DK l tg asd va asid gl u hl3 hv0 hv1;rw [hfb] at this;exact this
         have HHb:Hid (iB va asid l ⟨true,l,tg,asd,gl,pt⟩=fb):=by
          show _=_;rw [<-hfb];simp [iB,mj]
         clear hfb;go_wp2_with fail;refine (HFt.out wr).mono ?_;rintro e v5 ⟨rfl,n5⟩;have A5:=bst hb3 n5;cases fb
         ·go_wp2;go_roundw
          case rel=>exact ⟨q+1,by omega,by omega,by go_num,HNx.out HHb.out,A5⟩
          case measure=>simp [intOf];omega
         ·have hx:X=(true,(q:Int),(l:Int),pt):=by
           rw [<-HX.out];have hfi:=BI (t:=⟨sets,ways,es⟩) (k:=q-f) HV.out HFi.out (by simp only;rw [show f+(q-f)=q by omega];exact HXq.out) HHb.out (fun j y hj hy=>HQ.out (f+j) y (by omega) (by omega) hy);rw [show f+(q-f)=q by omega] at hfi;exact zY ⟨sets,ways,es⟩ va asid l q _ HEi.out (by omega) HF.out hfi
          subst hx;go_wp2_with fail;first
           | (replace mL:=mL;exact bodyPost_ret (v:=.tuple #[VI q,.bool true]) (by simp [results,Tryz.results229,go_sem]) rfl ⟨rfl,A5⟩)
           | (replace mP:=mP;exact bodyPost_ret (v:=.tuple #[VI q,.bool true]) (by simp [results,Tryz.results235,go_sem]) rfl ⟨rfl,A5⟩)
        ·have hlv':(lv == (l:Int))=false:=by simpa using hlv
         go_wp2;go_roundw
         case rel=>exact ⟨q+1,by omega,by omega,by go_num,HNx.out (by simp [iB,hlv]),hb3⟩
         case measure=>simp [intOf];omega
      ·have hqe:(q:Int)=f+ways:=by omega
       have hnn:=BH (t:=⟨sets,ways,es⟩) HV.out HFi.out (fun j x hj hx=>HQ.out (f+j) x (by omega) (by simp only at hj;omega) hx);have HNn:=hid hnn;clear hnn;go_wp2;go_roundw
       case rel=>exact ⟨l+1,by omega,by go_num,fun l' hl'=>by
        by_cases e:l'=l
        ·subst e;exact HNn.out
        ·exact HF.out l' (by omega),hb3⟩
       case measure=>simp [intOf];omega
   ·have hl3:l=3:=by omega
    subst hl3;have hx:X=(false,0,0,0):=by
     rw [<-HX.out];exact ug _ va asid HEi.out HF.out
    subst hx;go_wp2_with fail;first
     | (replace mL:=mL;exact bodyPost_ret (v:=.tuple #[VI 0,.bool false]) (by simp [results,Tryz.results229,go_sem]) rfl ⟨rfl,hb⟩)
     | (replace mP:=mP;exact bodyPost_ret (v:=.tuple #[VI 0,.bool false]) (by simp [results,Tryz.results235,go_sem]) rfl ⟨rfl,hb⟩)
end
theorem tU (lv:Int) (ra:Option Addr) (n rc:Nat) (w:World):
 Calls Tryz.prog 199 #[.agg #[VI lv,VU 0,.slice ra n rc]] w fun e w'=>e=.returned (.slice ra n rc)∧Bw w w':=by
 have n1:=(Below.refl w.heap.size w).alloc nle (Obj.cells #[VI lv,VU 0,.slice ra n rc] 312);go_enter Tryz.func199,Tryz.ntmps199;go_wp2;go_ret;exact ⟨rfl,n1⟩
theorem tV (lv lf:Int) (g n rc:Nat) (w:World) (h:lf≠0) (hn:n<=3) (hn1:n+1<=rc) (hrc:rc<=9223372036854775807):
 Calls Tryz.prog 199 #[.agg #[VI lv,VU lf,SL g (n+1) rc]] w fun e w'=>e=.returned (SL g n rc)∧Bw w w':=by
 have n1:=(Below.refl w.heap.size w).alloc nle (Obj.cells #[VI lv,VU lf,SL g (n+1) rc] 312);have h':(lf == 0)=false:=by simpa using h
 go_enter Tryz.func199,Tryz.ntmps199;go_wp2;go_ret;exact ⟨by simp,n1⟩
theorem xh (b:Nat) (kind:Int) (w:World):
 Calls Tryz.prog 228 #[PT b 20,VI kind] w fun e w'=>e=.returned (.pointer (some ⟨b,if kind=0 then 20 else 23,none⟩))∧w'=w:=by
 by_cases h:kind=0
 ·subst h;go_enter Tryz.func228,Tryz.ntmps228;go_wp2;go_ret;exact ⟨rfl,rfl⟩
 ·rw [if_neg h];go_enter Tryz.func228,Tryz.ntmps228;go_wp2;go_ret;exact ⟨rfl,rfl⟩
theorem Cs (b base gi gd gp:Nat) (k:KM) (sv:Value) (zs:List Int) (satp va:Int) (w:World) (hS:SetM w b base gi gd gp k) (hk:aR k.p true=true) (hko:∀e∈k.p.es,fq e) (hkl:k.p.es.length<=1048576)
 (hB:SrcAt w sv zs) (hv0:0<=va) (hv1:va<=18446744073709551615) (hr0:0<=satp) (hr1:satp<=18446744073709551615):
 Calls Tryz.prog 232 #[PT b 20,sv,VU satp,VU va] w fun e w'=>zv w.heap.size w' e (aW zs satp va (aY k.p va (aK satp)))∧Bw w w':=by
 have HS:=hid hS;have HB:=hid hB;have hb:=hS.lt;obtain ⟨⟨f,i,l,pt⟩,hX⟩:∃X,aY k.p va (aK satp)=X:=⟨_,rfl⟩;have HX:=hid hX;have HGet:Hid (f=true->∃(q:Nat) (x:EntM),k.p.es[q]?=some x∧i=(q:Int)∧l=x.level∧pt=x.pte∧(x.level=1∨x.level=2)):=fun hf=>by
  obtain ⟨q,x,h1,h2,h3,h4,_,h6⟩:=nj k.p va (aK satp) (by rw [hX];exact hf);rw [hX] at h2 h3 h4;refine ⟨q,x,h1,h2,h3,h4,?_⟩;have hp:=kB hk q x h1;simp only [cD,Bool.or_eq_true,Bool.and_eq_true,beq_iff_eq] at hp;rcases hp with hp | hp
  ·rw [h6] at hp;simp at hp
  ·have hg:=hp.1;simp only [aZ,Bool.and_eq_true,decide_eq_true_eq,beq_iff_eq,iT,if_true] at hg;have hkd:=hg.2;have hlv:=hg.1.1.1.1.1.2;have hlv2:=hg.1.1.1.1.2;rcases (show x.level=0∨x.level=1∨x.level=2 by omega) with h0 | h0 | h0
   ·rw [h0] at hkd;exact absurd hkd (jx _)
   ·exact .inl h0
   ·exact .inr h0
 obtain ⟨R,hR⟩:∃R,aW zs satp va (f,i,l,pt)=R:=⟨_,rfl⟩;have HRs:=hid hR;rw [hX,hR];clear hX hS hB hR;obtain ⟨v1,Ev1,n1,H1,l1⟩:=al1 w #[VI 0,VU 0,SN] 312;go_enter Tryz.func232,Tryz.ntmps232;go_wp2_with fail;rw [Ev1.out];clear Ev1;have HF:Hid (∀u:Lies v1,Calls Tryz.prog 235 #[PT b 26,VU va,VU (aK satp)] u.w fun e w'=>e=.returned (.tuple #[VI i,.bool f])∧Below u.w.heap.size u.w w'):=fun u=>by
  have S:=HS.out.keep (bst n1 u.h);obtain ⟨c0,c1,c2⟩:=S.cellP;have:=qI.2 b 26 gp k.p.es.length k.p va (aK satp) u.w rfl hkl hk S.lt c0 c1 c2 (dM S.2.1.2.2.1) hv0 hv1;rw [HX.out] at this;exact this
 have HA:=hid fun (u:Lies v1)=>mS satp u.w hr0 hr1;generalize aK satp=asd at HF HA;have ne:=dp v1;refine bS (by kernel_rfl) (by kernel_rfl) ?_;repeat (go_big_quiet_step ((first
  | (go_at_call 196;exact ke _ (HA.out _))
  | (go_at_call 235;exact cW _ (HF.out _)))))
 refine wpQuiet_nil ?_;rintro _ ⟨u,rfl⟩;have n2:=u.h;generalize u.w=v2 at n2 |-;have H2:=ah H1 n2;have A2:=bst n1 n2;have l2:=ltl l1 n2.size;clear n1 n2 H1 ne HF HA;obtain ⟨⟨d0,d1,d2⟩,e0,e1,e2⟩:=aA H2.out;cases f
 ·have hres:R=dn zs satp va:=by rw [<-HRs.out];simp [aW]
  go_wp2_with fail;refine (je sv zs va satp v2 (HB.out.keep A2) hv0 hv1 hr0 hr1).mono ?_;rw [<-hres];rintro e v3 ⟨hw,n3⟩;have H3:=ah H2 n3;have A3:=bst A2 n3;obtain ⟨ra,rc,rfl,o3⟩:=hw;clear d0 d1 d2 e0 e1 e2 hres HRs;obtain ⟨⟨d0,d1,d2⟩,e0,e1,e2⟩:=aA H3.out;go_wp2_with fail;exact bodyPost_ret (v:=.tuple #[.agg #[VI R.2.1,VU R.2.2.1,.slice ra R.2.2.2.length rc],cM R.1]) (by simp [results,Tryz.results232,go_sem,d0,d1,d2]) rfl ⟨⟨ra,rc,rfl,aJ (aG o3 (gb3 v3 w.heap.size _ _ _) l2) (by omega)⟩,gQ A3 nle _ _ _⟩
 ·obtain ⟨q,x,hx,rfl,rfl,rfl,hlv⟩:=HGet.out (by trivial);have hok:=hko x (List.mem_of_getElem? hx);have hql:=(List.getElem?_eq_some_iff.1 hx).1;have S2:=HS.out.keep A2;obtain ⟨_,_,p2⟩:=S2.cellP;have p2':=p2;clear p2;have CE:=fun j u (hj:j<6) (hu:(fG x)[j]?=some u)=>io (dM S2.2.1.2.2.1) rfl q _ hx j u hj hu;have g0:v2.cell? ⟨gp,q*6,none⟩=some (VI x.level):=CE 0 _ (by omega) rfl;have g1:v2.cell? ⟨gp,q*6+1,none⟩=some (VU x.tag):=CE 1 _ (by omega) rfl;have g2:v2.cell? ⟨gp,q*6+2,none⟩=some (VU x.asid):=CE 2 _ (by omega) rfl;have g3:v2.cell? ⟨gp,q*6+3,none⟩=some (.bool x.glob):=CE 3 _ (by omega) rfl;have g4:v2.cell? ⟨gp,q*6+4,none⟩=some (.bool x.valid):=CE 4 _ (by omega) rfl;have g5:v2.cell? ⟨gp,q*6+5,none⟩=some (VU x.pte):=CE 5 _ (by omega) rfl;obtain ⟨ll,hsub,hl1⟩:∃ll:Nat,x.level-1=(ll:Int)∧ll<=1:=by
   rcases hlv with h | h
   ·exact ⟨0,by rw [h];rfl,by omega⟩
   ·exact ⟨1,by rw [h];rfl,by omega⟩
  have hL1:1<=x.level:=by omega
  have hL2:x.level<=2:=by omega
  have hres:R=cQ zs va ll (dI x.pte):=by
   rw [<-HRs.out];simp only [aW,if_true];rw [hsub];simp
  have HRes:Hid (R=cQ zs va ll (dI x.pte)):=hres;have hpb:=hok.2.2.2;have htb:Hid (∀u:World,Calls Tryz.prog 236 #[VU x.pte] u fun e w'=>e=.returned (VU (dI x.pte))∧w'=u):=fun u=>DJ x.pte u hpb.1 hpb.2;have hpp:=rH x.pte;clear CE hres HRs HX HGet hlv S2 hx;generalize dI x.pte=pp at *;generalize x.level=L0 at *;generalize x.tag=tg at *;generalize x.asid=ad at *;generalize x.glob=gl at *;generalize x.valid=vv at *;generalize x.pte=pt at *;obtain ⟨v3,Ev3,n3,S3,_⟩:=al1 v2 #[VI L0,VU tg,VU ad,.bool gl,.bool vv,VU pt] 251;go_wp2_with fail;rw [Ev3.out];clear Ev3;have H3:=ah H2 n3;have A3:=bst A2 n3;have l3:w.heap.size<v3.heap.size:=ltl l2 n3.size;clear g0 g1 g2 g3 g4 g5 p2' d0 d1 d2 e0 e1 e2 n3 H2 A2;obtain ⟨⟨g0,g1,g2,g3,g4,g5⟩,_⟩:=iY S3.out;have D3:=bdr v3;have nev1:v2.heap.size≠w.heap.size:=by omega
  have nev2:w.heap.size≠v2.heap.size:=by omega
  have hwl:IntKind.i64.wrap (ll:Int)=(ll:Int):=(IntKind.wrap_i64 _).trans (by omega);clear g1 g2 g3 g4 hk hko hkl hb hok hql HS;clear l1 l2 hr0 hr1;go_region_held3 (fun w'=>w'.cell? (AD v2.heap.size 0)=some (VI L0)∧w'.cell? (AD v2.heap.size 5)=some (VU pt)) (go_keep)
   (first
   | (go_at_call 236;refine (htb.out _).mono ?_;rintro e w' ⟨rfl,rfl⟩)
   | (go_at_call 203;refine (pO sv zs va pp ll v3.drew (HB.out.keep (bst A3 D3)) (by omega) hv0 hv1 hpp.1 hpp.2).mono ?_;rw [<-HRes.out];rintro e v4 ⟨hw,n4⟩;obtain ⟨ra,rc,rfl,o4⟩:=hw;have N4:=bst D3 n4;have H4:=ah H3 N4;have S4:=ah S3 N4;have A4:=bst A3 N4;have O4:Hid _:=o4;have kk:=aA H4.out;obtain ⟨⟨j0,j1,j2⟩,i0,i1,i2⟩:=kk;have kk2:=iY S4.out;obtain ⟨⟨t0,t1,t2,t3,t4,t5⟩,_⟩:=kk2;clear o4))
  all_goals
   go_wp2_with fail;exact bodyPost_ret (v:=.tuple #[.agg #[VI R.2.1,VU R.2.2.1,.slice ra R.2.2.2.length rc],cM R.1]) (by simp [results,Tryz.results232,go_sem,j0,j1,j2]) rfl ⟨⟨ra,rc,rfl,aJ (aG O4.out (gb3 v4 w.heap.size _ _ _) l3) (Nat.le_of_lt l3)⟩,gQ A4 nle _ _ _⟩
section
attribute [local go_sem ↓] Go.wp_at_zero Go.wp_at_succ
def rn (z0:Nat):Prop:=∀(lv tg asd pt:Int) (gl vv:Bool) (w:World),Calls Tryz.prog z0 #[.agg #[VI lv,VU tg,VU asd,.bool gl,.bool vv,VU pt]] w fun e w'=>e=.returned (.agg #[.bool vv,VI lv,VU tg,VU asd,.bool gl,VU pt])∧Bw w w'
theorem tz:rn 149∧rn 150:=by
 refine ⟨?_,?_⟩;have mL:=trivial
 rotate_left
 have mP:=trivial
 rotate_left
 all_goals
  intro lv tg asd pt gl vv w;first
   | (replace mL:=mL;have n1:=((Below.refl w.heap.size w).alloc nle (Obj.cells #[VI lv,VU tg,VU asd,.bool gl,.bool vv,VU pt] 246)).alloc (by simp) (Obj.cells #[.bool vv,VI lv,VU tg,VU asd,.bool gl,VU pt] 127))
   | (replace mP:=mP;have n1:=((Below.refl w.heap.size w).alloc nle (Obj.cells #[VI lv,VU tg,VU asd,.bool gl,.bool vv,VU pt] 251)).alloc (by simp) (Obj.cells #[.bool vv,VI lv,VU tg,VU asd,.bool gl,VU pt] 127))
  first
   | (replace mL:=mL;go_enter Tryz.func149,Tryz.ntmps149)
   | (replace mP:=mP;go_enter Tryz.func150,Tryz.ntmps150)
  go_wp2_with fail;first
   | (replace mL:=mL;exact bodyPost_ret (v:=.agg #[.bool vv,VI lv,VU tg,VU asd,.bool gl,VU pt]) (by simp [results,Tryz.results149,go_sem]) rfl ⟨rfl,n1⟩)
   | (replace mP:=mP;exact bodyPost_ret (v:=.agg #[.bool vv,VI lv,VU tg,VU asd,.bool gl,VU pt]) (by simp [results,Tryz.results150,go_sem]) rfl ⟨rfl,n1⟩)
def uT (z0:Nat):Prop:=∀(b o g n:Nat) (t:TlbM) (w:World) (hn:t.es.length=n) (hn1:n<=1048576) (hbl:b<w.heap.size) (hgl:g<w.heap.size)
 (c0:w.cell? (AD b o)=some (VI t.sets)) (c1:w.cell? ⟨b,o+1,none⟩=some (VI t.ways)) (c2:w.cell? ⟨b,o+2,none⟩=some (SL g n n)) (hr:RowC w (some (AD g 0)) n 6 (aI t.es)),Calls Tryz.prog z0 #[PT b o] w fun e w'=>(∃x,e=.returned x∧TlbOwn w.heap.size w' x t)∧Bw w w'
theorem tA:uT 121∧uT 122:=by
 refine ⟨?_,?_⟩;have mL:=trivial
 rotate_left
 have mP:Hid True:=trivial
 rotate_left
 all_goals
  intro b o g n t w hn hn1 hbl hgl c0 c1 c2 hr;have HR:=hid hr;have HN:=hid hn;obtain ⟨sets,ways,es⟩:=t;simp only at c0 c1 c2 HR HN;clear hr hn;obtain ⟨cs,hcs,hmk⟩:=xV n hn1;have n1:=(Below.refl w.heap.size w).alloc nle (Obj.cells #[VI 0,VI 0,SN] 39);have H1:Hid ((w.alloc (Obj.cells #[VI 0,VI 0,SN] 39)).heap[w.heap.size]?=some (.cells #[VI 0,VI 0,SN] 39 (0,0))):=er w _;have l1:(w.alloc (Obj.cells #[VI 0,VI 0,SN] 39)).heap.size=w.heap.size+1:=by simp
  have nV:Below (w.alloc (Obj.cells #[VI 0,VI 0,SN] 39)).heap.size (w.alloc (Obj.cells #[VI 0,VI 0,SN] 39)) ((w.alloc (Obj.cells #[VI 0,VI 0,SN] 39)).alloc (.cells cs 127)):=(brf).alloc nle _;have hG:((w.alloc (Obj.cells #[VI 0,VI 0,SN] 39)).alloc (.cells cs 127)).heap[w.heap.size+1]?=some (.cells cs 127 (0,0)):=by
   have:=er (w.alloc (Obj.cells #[VI 0,VI 0,SN] 39)) (.cells cs 127);simp only [World.size_alloc] at this;exact this
  have hcl:cs.toList.length=n*6:=by rw [hcs,eT];simp
  have O2:Hid (((w.alloc (Obj.cells #[VI 0,VI 0,SN] 39)).alloc (.cells cs 127)).ownsRow (w.heap.size+1) 127 6 (.slice (some ⟨w.heap.size+1,0,none⟩) n n) n (aO (cZ 0 n es))):=by
   rw [pJ,<-hcs];exact ⟨hcl,.inr ⟨_,n,cs,rfl,nle,hG,nle,by unfold maxLen;omega,by rw [<-hcl];simp,List.take_of_length_le (by omega)⟩⟩
  have A2:=bst n1 nV;have K2:=ah H1 nV;have B2:Below (w.heap.size+1) ((w.alloc (Obj.cells #[VI 0,VI 0,SN] 39)).alloc (.cells cs 127)) ((w.alloc (Obj.cells #[VI 0,VI 0,SN] 39)).alloc (.cells cs 127)):=brf;have l2:((w.alloc (Obj.cells #[VI 0,VI 0,SN] 39)).alloc (.cells cs 127)).heap.size=w.heap.size+2:=by simp
  clear hG hcl hcs H1 n1 nV;have e0:w.heap.size≠b:=by omega
  have e1:w.heap.size+1≠b:=by omega
  first
   | (replace mL:=mL;go_enter Tryz.func121,Tryz.ntmps121)
   | (replace mP:=mP;go_enter Tryz.func122,Tryz.ntmps122)
  go_wp2_with fail;generalize ((w.alloc (Obj.cells #[VI 0,VI 0,SN] 39)).alloc (.cells cs 127))=v2 at O2 A2 K2 l2 B2 |-;go_loopw [17] (fun i wr=>∃k:Nat,k<=n∧i=VI k∧wr.ownsRow (w.heap.size+1) 127 6 (.slice (some ⟨w.heap.size+1,0,none⟩) n n) n (aO (cZ k n es))∧Below (w.heap.size+1) v2 wr) (fun i _=>n-(intOf i).toNat)
  case atStart=>exact ⟨0,Nat.zero_le _,rfl,O2.out,B2⟩
  case round=>
   obtain ⟨k,hk,rfl,hO,hb⟩:=hrel;have PO:=hid hO;have lg:=(bI hO).2.2;have A3:=A2.trans (hb.mono (by omega));have P1:=hid ((hb.block w.heap.size (by omega)).trans K2.out);clear hO;have r0:=Below.cell2 A3 c0 hbl;have r1:wr.cell? ⟨b,o+1,none⟩=some (VI ways):=Below.cell2 A3 c1 hbl;have r2:wr.cell? ⟨b,o+2,none⟩=some (SL g n n):=Below.cell2 A3 c2 hbl;by_cases hlt:k<n
   ·obtain ⟨⟨vv,lv,tg,asd,gl,pt⟩,hx⟩:∃x,es[k]?=some x:=⟨_,geg (by rw [HN.out];exact hlt)⟩;have HXk:Hid (es[k]?=some ⟨vv,lv,tg,asd,gl,pt⟩):=hx;have CE:∀j u,j<6->(fG ⟨vv,lv,tg,asd,gl,pt⟩)[j]?=some u->wr.cell? ⟨g,k*6+j,none⟩=some u:=fun j u hj hu=>io (HR.out.keep A3) HN.out k _ hx j u hj hu;have g0:wr.cell? ⟨g,k*6,none⟩=some (VI lv):=CE 0 _ (by omega) rfl;have g1:wr.cell? ⟨g,k*6+1,none⟩=some (VU tg):=CE 1 _ (by omega) rfl;have g2:wr.cell? ⟨g,k*6+2,none⟩=some (VU asd):=CE 2 _ (by omega) rfl;have g3:wr.cell? ⟨g,k*6+3,none⟩=some (.bool gl):=CE 3 _ (by omega) rfl;have g4:wr.cell? ⟨g,k*6+4,none⟩=some (.bool vv):=CE 4 _ (by omega) rfl;have g5:wr.cell? ⟨g,k*6+5,none⟩=some (VU pt):=CE 5 _ (by omega) rfl;clear CE hx;first
     | (replace mL:=mL;obtain ⟨v5,Ev5,n5,_,_⟩:=al1 wr #[VI lv,VU tg,VU asd,.bool gl,.bool vv,VU pt] 246)
     | (replace mP:=mP;obtain ⟨v5,Ev5,n5,_,_⟩:=al1 wr #[VI lv,VU tg,VU asd,.bool gl,.bool vv,VU pt] 251)
    go_wp2_with fail;rw [Ev5.out];clear Ev5;first
     | (replace mL:=mL;refine (tz.1 lv tg asd pt gl vv v5).mono ?_)
     | (replace mP:=mP;refine (tz.2 lv tg asd pt gl vv v5).mono ?_)
    rintro e v6 ⟨rfl,n6⟩;have n56:=bst n5 n6;have SO:Hid (v6.ownsRow (w.heap.size+1) 127 6 (.slice (some ⟨w.heap.size+1,0,none⟩) n n) n (aO (cZ k n es))):=aj PO.out n56;have B6:Below (w.heap.size+1) v2 v6:=hb.trans (n56.mono (by omega));have hfl:(aO (cZ k n es)).length=n*6:=by
     have:=HN.out;subst this;rw [eT,jz _ _ (by omega)]
    clear g0 g1 g2 g3 g4 g5 r0 r1 r2 n5 n6 n56 hb A3;have q0:=aE SO.out (k*6) _ (geg (by omega));have q1:=aE SO.out (k*6+1) _ (geg (by omega));have q2:=aE SO.out (k*6+2) _ (geg (by omega));have q3:=aE SO.out (k*6+3) _ (geg (by omega));have q4:=aE SO.out (k*6+4) _ (geg (by omega));have q5:=aE SO.out (k*6+5) _ (geg (by omega));generalize (aO (cZ k n es))[k*6]'_=y0 at q0;generalize (aO (cZ k n es))[k*6+1]'_=y1 at q1;generalize (aO (cZ k n es))[k*6+2]'_=y2 at q2;generalize (aO (cZ k n es))[k*6+3]'_=y3 at q3;generalize (aO (cZ k n es))[k*6+4]'_=y4 at q4;generalize (aO (cZ k n es))[k*6+5]'_=y5 at q5;have s0:=aQ SO.out (k*6);have s1:=aQ SO.out (k*6+1);have s2:=aQ SO.out (k*6+2);have s3:=aQ SO.out (k*6+3);have s4:=aQ SO.out (k*6+4);have s5:=aQ SO.out (k*6+5);go_wp2;go_roundw
    case rel=>
     refine ⟨k+1,by omega,by go_num,?_,?_⟩
     ·have:=HN.out;subst this;rw [mg k es _ HXk.out,js _ _ _ (by rw [jz _ _ (by omega)];exact hlt)];exact aF (aF (aF (aF (aF (aF SO.out _ _) _ _) _ _) _ _) _ _) _ _
     ·have hg1:w.heap.size+1<=w.heap.size+1:=nle;exact (((((B6.setCell (p:=⟨w.heap.size+1,_,none⟩) hg1 _).setCell (p:=⟨w.heap.size+1,_,none⟩) hg1 _).setCell (p:=⟨w.heap.size+1,_,none⟩) hg1 _).setCell (p:=⟨w.heap.size+1,_,none⟩) hg1 _).setCell (p:=⟨w.heap.size+1,_,none⟩) hg1 _).setCell (p:=⟨w.heap.size+1,_,none⟩) hg1 _
    case measure=>simp [intOf];omega
   ·have hkn:k=n:=by omega
    subst hkn;obtain ⟨⟨d0,d1,d2⟩,f0,f1,f2⟩:=aA P1.out;go_wp2;go_region;first
     | (replace mL:=mL;all_goals
          go_wp2_with fail
          refine bodyPost_ret (v:=.agg #[VI sets,VI ways,.slice (some ⟨w.heap.size+1,0,none⟩) k k]) (by simp [results,Tryz.results121,go_sem,d0,d1,d2]) rfl ⟨⟨_,rfl,w.heap.size+1,k,by simp only;rw [HN.out],?_⟩,(gQ A3 nle _ _ _).drew⟩
          simp only
          rw [HN.out]
          have hO:=PO.out
          have hq:=HN.out
          subst hq
          rw [oM] at hO
          exact aJ (ky (aG hO (gb3 wr w.heap.size _ _ _) (by omega))) (by omega))
     | (replace mP:=mP;all_goals
          go_wp2_with fail
          refine bodyPost_ret (v:=.agg #[VI sets,VI ways,.slice (some ⟨w.heap.size+1,0,none⟩) k k]) (by simp [results,Tryz.results122,go_sem,d0,d1,d2]) rfl ⟨⟨_,rfl,w.heap.size+1,k,by simp only;rw [HN.out],?_⟩,(gQ A3 nle _ _ _).drew⟩
          simp only
          rw [HN.out]
          have hO:=PO.out
          have hq:=HN.out
          subst hq
          rw [oM] at hO
          exact aJ (ky (aG hO (gb3 wr w.heap.size _ _ _) (by omega))) (by omega))
end
end Go.Proofs.YtkenjknmfhoppaaGreat
