import Derived.Test.YtpdddbobhndbjaaGreatPk20
namespace Go.Proofs.YtpdddbobhndbjaaGreat
open Go.RowKit
set_option linter.unusedVariables false
set_option maxHeartbeats 6400000
set_option maxRecDepth 20000
section
attribute [local go_sem ↓] Go.wp_at_zero Go.wp_at_succ
theorem jm (mode:Int) (sum mxr:Bool) (satp:Int) (w:World) (h0:0<=satp) (h1:satp<=18446744073709551615):
 Calls Tryz.prog 161 #[dV mode sum mxr satp] w fun e w'=>e=.returned (.bool (onM mode satp))∧Bw w w':=by
 unfold dV;have b1:=(Below.refl w.heap.size w).alloc nle (Obj.cells #[.int .i64 mode,.bool sum,.bool mxr,.int .u64 satp] 172);have HS:Hid (satp/1152921504606846976=satp/1152921504606846976%16):=show _=_ by omega
 cases hs:(satp/1152921504606846976 == 8)
 ·go_enter Tryz.func161,Tryz.ntmps161;go_wp2_with fail;go_ret;exact ⟨aE (by rw [onM,<-HS.out,hs];rfl),b1⟩
 ·cases hm0:(mode == 0)
  ·go_enter Tryz.func161,Tryz.ntmps161;go_wp2_with fail;go_ret;exact ⟨aE (by rw [onM,<-HS.out,hs,hm0];rfl),b1⟩
  ·go_enter Tryz.func161,Tryz.ntmps161;go_wp2_with fail;go_ret;exact ⟨aE (by rw [onM,<-HS.out,hs,hm0];rfl),b1⟩
theorem fS (pte level mode:Int) (sum mxr:Bool) (satp kind va:Int) (w:World) (h0:0<=pte) (h1:pte<=18446744073709551615) (hv:0<=va) (hv':va<=18446744073709551615) (hl:level=0∨level=1∨level=2):
 Calls Tryz.prog 166 #[.int .u64 pte,.int .i64 level,dV mode sum mxr satp,.int .i64 kind,.int .u64 va] w fun e w'=>
  e=.returned (.tuple #[.int .u64 (if dm pte kind mode sum mxr=true then fP pte level va else 0),cF (if dm pte kind mode sum mxr=true then 1 else 2)])∧Bw w w':=by
 unfold dV;have b1:=(Below.refl w.heap.size w).alloc nle (Obj.cells #[.int .i64 mode,.bool sum,.bool mxr,.int .u64 satp] 172);cases hg:dm pte kind mode sum mxr
 ·have HG:=hid hg;clear hg;rw [if_neg (by simp),if_neg (by simp)];go_enter Tryz.func166,Tryz.ntmps166;go_wp2_with (go_at_call 172;refine (ly pte kind mode sum mxr _ h0 h1).mono ?_;rintro e w' ⟨rfl,rfl⟩;rw [HG.out]);exact bodyPost_ret (v:=.tuple #[.int .u64 0,.iface 248 (.agg #[])]) (by simp [results,Tryz.results166,go_sem]) rfl ⟨rfl,b1⟩
 ·have HG:=hid hg;clear hg;rw [if_pos rfl,if_pos rfl];go_enter Tryz.func166,Tryz.ntmps166;go_wp2_with (first
   | (go_at_call 172;refine (ly pte kind mode sum mxr _ h0 h1).mono ?_;rintro e w' ⟨rfl,rfl⟩;rw [HG.out])
   | (go_at_call 173;refine (CH pte level va _ h0 h1 hl hv hv').mono ?_;rintro e w' ⟨rfl,rfl⟩))
  exact bodyPost_ret (v:=.tuple #[.int .u64 (fP pte level va),.nilIface]) (by simp [results,Tryz.results166,go_sem]) rfl ⟨rfl,b1⟩
theorem CU (w:World):(binOp .neq 236 (.iface 248 (.agg #[])) .nilIface).run Tryz.prog w=.ok (.bool true) w:=by kernel_rfl
theorem CV (w:World):(binOp .neq 236 (.iface 249 (.agg #[])) .nilIface).run Tryz.prog w=.ok (.bool true) w:=by kernel_rfl
theorem CX (w:World):(binOp .neq 236 .nilIface .nilIface).run Tryz.prog w=.ok (.bool false) w:=by kernel_rfl
def mn (r:Int × Int × Int × List dQ) (mode:Int) (sum mxr:Bool) (kind va:Int):Int × Int:=
 if r.1=1 then (if dm r.2.2.1 kind mode sum mxr=true then (fP r.2.2.1 r.2.1 va,1) else (0,2)) else (0,r.1)
theorem oT {w w':World} {g:Nat} {o:Obj} (h:Hid (w.heap[g]?=some o)) (n:Bw w w') (l:g<w.heap.size):Hid (w'.heap[g]?=some o):=ae h.out n l
theorem ue (sv:Value) (zs:List Int) (mode:Int) (sum mxr:Bool) (satp kind va:Int) (w:World) (hB:SrcAt w sv zs) (hv0:0<=va) (hv1:va<=18446744073709551615) (hs0:0<=satp) (hs1:satp<=18446744073709551615) (hon:onM mode satp=true):
 Calls Tryz.prog 197 #[sv,dV mode sum mxr satp,.int .i64 kind,.int .u64 va] w fun e w'=>
  e=.returned (.tuple #[.int .u64 (mn (dv zs satp va) mode sum mxr kind va).1,cF (mn (dv zs satp va) mode sum mxr kind va).2])∧Bw w w':=by
 have HB:=hid hB;have HTR:Hid (∀w,Calls Tryz.prog 161 #[.agg #[.int .i64 mode,.bool sum,.bool mxr,.int .u64 satp]] w fun e w'=>e=.returned (.bool true)∧Bw w w'):=fun w=>by have:=jm mode sum mxr satp w hs0 hs1;rw [hon] at this;exact this
 clear hon;have hcd:=mQ zs satp va;have hbd:=rQ zs satp va hB.bd;clear hB;obtain ⟨X,hX⟩:∃X,dv zs satp va=X:=⟨_,rfl⟩;have HX:=hid hX;rw [hX] at hcd hbd |-;clear hX;obtain ⟨x1,x2,x3,rs⟩:=X;simp only at hcd hbd;unfold dV;have b1:=(Below.refl w.heap.size w).alloc nle (Obj.cells #[.int .i64 mode,.bool sum,.bool mxr,.int .u64 satp] 172);have r1:Hid ((w.alloc (Obj.cells #[.int .i64 mode,.bool sum,.bool mxr,.int .u64 satp] 172)).heap[w.heap.size]?=some (.cells #[.int .i64 mode,.bool sum,.bool mxr,.int .u64 satp] 172 (0,0))):=heap_alloc_new w _;have l1:w.heap.size<(w.alloc (Obj.cells #[.int .i64 mode,.bool sum,.bool mxr,.int .u64 satp] 172)).heap.size:=by simp
 have q1:=CU;have q2:=CV;have q3:=CX;rcases hcd with rfl | rfl | rfl
 ·obtain ⟨⟨y1,y2⟩,hY⟩:∃Y,mn (1,x2,x3,rs) mode sum mxr kind va=Y:=⟨_,rfl⟩;rw [hY];obtain ⟨fv,hfv⟩:∃fv,cF y2=fv:=⟨_,rfl⟩;have HTL:Hid (∀w,Calls Tryz.prog 166 #[.int .u64 x3,.int .i64 x2,.agg #[.int .i64 mode,.bool sum,.bool mxr,.int .u64 satp],.int .i64 kind,.int .u64 va] w fun e w'=>
   e=.returned (.tuple #[.int .u64 y1,fv])∧Bw w w'):=by
   intro w;have:=fS x3 x2 mode sum mxr satp kind va w hbd.1 hbd.2.1 hv0 hv1 (by omega);unfold dV at this;rw [<-hfv];cases hg:dm x3 kind mode sum mxr
   ·simp [mn,hg] at hY;obtain ⟨rfl,rfl⟩:=hY;simpa [hg] using this
   ·simp [mn,hg] at hY;obtain ⟨rfl,rfl⟩:=hY;simpa [hg] using this
  rw [hfv];clear hY hfv;go_enter Tryz.func197,Tryz.ntmps197;go_wp2_with fail;generalize w.alloc (Obj.cells #[.int .i64 mode,.bool sum,.bool mxr,.int .u64 satp] 172)=v0 at b1 r1 l1 |-;refine (HTR.out v0).mono ?_;rintro e v1 ⟨rfl,n1⟩;replace r1:=oT r1 n1 l1;replace b1:=bst b1 n1;replace l1:=Nat.lt_of_lt_of_le l1 n1.size;clear n1;obtain ⟨⟨d0,d1,d2,d3⟩,e0,e1,e2,e3⟩:=az r1.out;go_wp2_with fail;clear d0 d1 d2 d3 e0 e1 e2 e3;refine (iI sv zs va satp v1 (HB.out.keep b1) hv0 hv1 hs0 hs1).mono ?_;rintro e v2 ⟨hw,n2⟩;rw [HX.out] at hw;obtain ⟨ra,rc,rfl,o2⟩:=hw;clear o2;rw [show cF 1=.nilIface from rfl];have b2:=bst b1 n2;have r2:=hid (ae r1.out n2 l1);have l2:=Nat.lt_of_lt_of_le l1 n2.size;obtain ⟨⟨d0,d1,d2,d3⟩,e0,e1,e2,e3⟩:=az r2.out;have b3:=b2.alloc (by omega) (Obj.cells #[.int .i64 x2,.int .u64 x3,.slice ra rs.length rc] 276);clear b1 r1 l1 n2;go_wp2_with fail;refine (HTL.out _).mono ?_;rintro e v4 ⟨rfl,n4⟩;have b4:=bst b3 n4;go_wp2_with fail;exact bodyPost_ret (v:=.tuple #[.int .u64 y1,fv]) (by simp [results,Tryz.results197,go_sem]) rfl ⟨rfl,b4⟩
 ·rw [show mn (2,x2,x3,rs) mode sum mxr kind va=(0,2) from rfl];rw [show cF 2=.iface 248 (.agg #[]) from rfl];go_enter Tryz.func197,Tryz.ntmps197;go_wp2_with fail;generalize w.alloc (Obj.cells #[.int .i64 mode,.bool sum,.bool mxr,.int .u64 satp] 172)=v0 at b1 r1 l1 |-;refine (HTR.out v0).mono ?_;rintro e v1 ⟨rfl,n1⟩;replace r1:=oT r1 n1 l1;replace b1:=bst b1 n1;replace l1:=Nat.lt_of_lt_of_le l1 n1.size;clear n1;obtain ⟨⟨d0,d1,d2,d3⟩,e0,e1,e2,e3⟩:=az r1.out;go_wp2_with fail;clear d0 d1 d2 d3 e0 e1 e2 e3;refine (iI sv zs va satp v1 (HB.out.keep b1) hv0 hv1 hs0 hs1).mono ?_;rintro e v2 ⟨hw,n2⟩;rw [HX.out] at hw;obtain ⟨ra,rc,rfl,o2⟩:=hw;clear o2;rw [show cF 2=.iface 248 (.agg #[]) from rfl];have b2:=bst b1 n2;have r2:=hid (ae r1.out n2 l1);have l2:=Nat.lt_of_lt_of_le l1 n2.size;obtain ⟨⟨d0,d1,d2,d3⟩,e0,e1,e2,e3⟩:=az r2.out;have b3:=b2.alloc (by omega) (Obj.cells #[.int .i64 x2,.int .u64 x3,.slice ra rs.length rc] 276);clear b1 r1 l1 n2;go_wp2_with fail;exact bodyPost_ret (v:=.tuple #[.int .u64 0,.iface 248 (.agg #[])]) (by simp [results,Tryz.results197,go_sem]) rfl ⟨rfl,b3⟩
 ·rw [show mn (3,x2,x3,rs) mode sum mxr kind va=(0,3) from rfl];rw [show cF 3=.iface 249 (.agg #[]) from rfl];go_enter Tryz.func197,Tryz.ntmps197;go_wp2_with fail;generalize w.alloc (Obj.cells #[.int .i64 mode,.bool sum,.bool mxr,.int .u64 satp] 172)=v0 at b1 r1 l1 |-;refine (HTR.out v0).mono ?_;rintro e v1 ⟨rfl,n1⟩;replace r1:=oT r1 n1 l1;replace b1:=bst b1 n1;replace l1:=Nat.lt_of_lt_of_le l1 n1.size;clear n1;obtain ⟨⟨d0,d1,d2,d3⟩,e0,e1,e2,e3⟩:=az r1.out;go_wp2_with fail;clear d0 d1 d2 d3 e0 e1 e2 e3;refine (iI sv zs va satp v1 (HB.out.keep b1) hv0 hv1 hs0 hs1).mono ?_;rintro e v2 ⟨hw,n2⟩;rw [HX.out] at hw;obtain ⟨ra,rc,rfl,o2⟩:=hw;clear o2;rw [show cF 3=.iface 249 (.agg #[]) from rfl];have b2:=bst b1 n2;have r2:=hid (ae r1.out n2 l1);have l2:=Nat.lt_of_lt_of_le l1 n2.size;obtain ⟨⟨d0,d1,d2,d3⟩,e0,e1,e2,e3⟩:=az r2.out;have b3:=b2.alloc (by omega) (Obj.cells #[.int .i64 x2,.int .u64 x3,.slice ra rs.length rc] 276);clear b1 r1 l1 n2;go_wp2_with fail;exact bodyPost_ret (v:=.tuple #[.int .u64 0,.iface 249 (.agg #[])]) (by simp [results,Tryz.results197,go_sem]) rfl ⟨rfl,b3⟩
theorem sJ (sv:Value) (mode:Int) (sum mxr:Bool) (satp kind va:Int) (w:World) (hs0:0<=satp) (hs1:satp<=18446744073709551615) (hon:onM mode satp=false):
 Calls Tryz.prog 197 #[sv,dV mode sum mxr satp,.int .i64 kind,.int .u64 va] w fun e w'=>
  e=.returned (.tuple #[.int .u64 va,cF 1])∧Bw w w':=by
 have HTR:Hid (∀w,Calls Tryz.prog 161 #[.agg #[.int .i64 mode,.bool sum,.bool mxr,.int .u64 satp]] w fun e w'=>e=.returned (.bool false)∧Bw w w'):=fun w=>by have:=jm mode sum mxr satp w hs0 hs1;rw [hon] at this;exact this
 clear hon;unfold dV;obtain ⟨v0,Ev0,b1,_,_⟩:=al1 w #[.int .i64 mode,.bool sum,.bool mxr,.int .u64 satp] 172;rw [show cF 1=.nilIface from rfl];go_enter Tryz.func197,Tryz.ntmps197;go_wp2_with fail;rw [Ev0.out];clear Ev0;refine (HTR.out v0).mono ?_;rintro e v1 ⟨rfl,n1⟩;have b2:=bst b1 n1;go_wp2_with fail;exact bodyPost_ret (v:=.tuple #[.int .u64 va,.nilIface]) (by simp [results,Tryz.results197,go_sem]) rfl ⟨rfl,b2⟩
def jf (zs:List Int) (mode:Int) (sum mxr:Bool) (satp kind va:Int):Int × Int:=
 if onM mode satp=false then (va,1) else mn (dv zs satp va) mode sum mxr kind va
theorem sK (sv:Value) (zs:List Int) (mode:Int) (sum mxr:Bool) (satp kind va:Int) (w:World) (hB:SrcAt w sv zs) (hv0:0<=va) (hv1:va<=18446744073709551615) (hs0:0<=satp) (hs1:satp<=18446744073709551615):
 Calls Tryz.prog 197 #[sv,dV mode sum mxr satp,.int .i64 kind,.int .u64 va] w fun e w'=>
  e=.returned (.tuple #[.int .u64 (jf zs mode sum mxr satp kind va).1,cF (jf zs mode sum mxr satp kind va).2])∧Bw w w':=by
 unfold jf;cases hon:onM mode satp
 ·rw [if_pos rfl];exact sJ sv mode sum mxr satp kind va w hs0 hs1 hon
 ·rw [if_neg (by simp)];exact ue sv zs mode sum mxr satp kind va w hB hv0 hv1 hs0 hs1 hon
theorem xq (r:Int × Int × Int × List dQ) (mode:Int) (sum mxr:Bool) (kind va:Int) (h:r.1=1∨r.1=2∨r.1=3):
 cV r mode sum mxr kind va=((if (mn r mode sum mxr kind va).2=1 then 0 else if (mn r mode sum mxr kind va).2=2 then eA kind else bL kind),(mn r mode sum mxr kind va).1):=by
 unfold cV mn eV;rcases h with h | h | h <;> rw [h]
 ·cases dm r.2.2.1 kind mode sum mxr <;> simp
 ·simp
 ·simp
theorem yX (r:Int × Int × Int × List dQ) (mode:Int) (sum mxr:Bool) (kind va:Int) (h:r.1=1∨r.1=2∨r.1=3):
 (mn r mode sum mxr kind va).2=1∨(mn r mode sum mxr kind va).2=2∨(mn r mode sum mxr kind va).2=3:=by
 unfold mn;rcases h with h | h | h <;> rw [h]
 ·cases dm r.2.2.1 kind mode sum mxr <;> simp
 ·simp
 ·simp
end
def kC (c t:Int):PanicEntry:={ v:=.iface 79 (.agg #[.int .i64 c,.int .u64 t]),recovered:=false }
theorem DN {O X:Nat->Prop} {m:MP} {ov:Value} {h:HartM} {ol:List (Nat × Int)} (w:World) (k:MW w O X m ov h ol):
 Calls Tryz.prog 132 #[.pointer (some ⟨m.b,0,none⟩)] w fun e w'=>e=.returned (ql h)∧Bw w w':=by
 obtain ⟨v1,Ev1,F⟩:=ax1 w #[.int .i64 0,.bool false,.bool false,.int .u64 0] 172;have hb:=k.lt;have c9:=ab k.blk 9 (v:=.int .i64 h.mode) rfl;have c10:=ab k.blk 10 (v:=.bool h.sum) rfl;have c11:=ab k.blk 11 (v:=.bool h.mxr) rfl;have c12:=ab k.blk 12 (v:=.int .u64 h.satp) rfl;unfold ql;clear k;generalize m.b=b at *;go_enter Tryz.func132,Tryz.ntmps132;go_upto_region 1 with fail;rw [Ev1.out];clear Ev1;obtain ⟨h1,hz,n1⟩:=F;replace c9:=Below.cell2 n1 c9 hb;replace c10:=Below.cell2 n1 c10 hb;replace c11:=Below.cell2 n1 c11 hb;replace c12:=Below.cell2 n1 c12 hb;have k0:=ab h1 0 (v:=.int .i64 0) rfl;have k1:=ab h1 1 (v:=.bool false) rfl;have k2:=ab h1 2 (v:=.bool false) rfl;have k3:=ab h1 3 (v:=.int .u64 0) rfl;have f0:=ay h1 0;have f1:=ay h1 1;have f2:=ay h1 2;have f3:=ay h1 3;have b2:w.heap.size<v1.heap.size:=by omega
 have hb1:b<v1.heap.size:=by omega
 clear h1 hz;refine dl 17 (by kernel_rfl) (by kernel_rfl) ?_;simp only [List.take_succ_cons,List.take_zero,List.drop_succ_cons,List.drop_zero];repeat still_step
 refine wpStill_nil ?_;go_wp2_with fail;exact bodyPost_ret (v:=.agg #[.int .i64 h.mode,.bool h.sum,.bool h.mxr,.int .u64 h.satp]) (by simp [results,Tryz.results132,go_sem,k0,k1,k2,k3]) rfl ⟨rfl,bN (bN (bN (bN n1.drew (by omega) _ _) (by omega) _ _) (by omega) _ _) (by omega) _ _⟩
def DO (plain:Bool) (pick:Int) (O X:Nat->Prop) (m:MP) (PA:World->RunM->Prop) (ov:Value) (ol:List (Nat × Int)) (r:RunM) (kind va size:Int) (w:World) (e:Ending) (w':World):Prop:=
 e=(if (br plain pick r.h kind va).1.1=0 then .returned (.agg #[.int .i64 kind,.int .u64 va,.int .u64 (br plain pick r.h kind va).1.2,.int .u64 size]) else .panicked [kC (br plain pick r.h kind va).1.1 va])∧
 MW w' O X m ov (bX plain pick r kind va).h ol∧PA w' (bX plain pick r kind va)∧Kp X w w'
theorem kn {plain:Bool} {pick:Int} {h0:HartM} {O X:Nat->Prop} {PI:World->Prop} {PA:World->RunM->Prop} {m:MP} (hp:PathOk m plain pick h0 X PI PA) (hpk:0<=pick∧pick<=255) {ov:Value} {ol:List (Nat × Int)} (r:RunM) (kind va size:Int) (w:World)
 (k:MW w O X m ov r.h ol) (hA:PA w r) (hr:ROk r) (hc:SameC r.h h0) (hk0:0<=kind) (hk2:kind<=2) (hv:inU va):
 Calls Tryz.prog 102 #[.pointer (some ⟨m.b,0,none⟩),.int .i64 kind,.int .u64 va,.int .u64 size] w fun e w'=>DO plain pick O X m PA ov ol r kind va size w e w':=by
 obtain ⟨v1,Ev1,F⟩:=ax1 w #[.int .i64 0,.int .u64 0,.int .u64 0,.int .u64 0] 201;have HK:Hid _:=k;have HA:Hid _:=hA;have HP:Hid _:=hp;have HR:Hid _:=hr;have HC:Hid _:=hc;have HSh:Hid (gP (br plain pick r.h kind va).2 m.gi m.gd m.gp=gP r.h.k m.gi m.gd m.gp):=(vi hr.h plain hpk ⟨hk0,hk2⟩).set _ _ _;have hb:=k.lt;obtain ⟨hv0,hv1⟩:=hv;clear k hA hp hr hc;obtain ⟨b,hbm⟩:∃b,m.b=b:=⟨_,rfl⟩;have HBm:Hid _:=hbm;rw [hbm] at hb;rw [hbm];clear hbm;go_enter Tryz.func102,Tryz.ntmps102;go_upto_region 1 with fail;rw [Ev1.out];clear Ev1;obtain ⟨h1,hz,n1⟩:=F;have H1:Hid _:=h1;have K1:=hid (HK.out.low n1);have c29:v1.cell? ⟨b,29,none⟩=some (.iface m.pd m.px):=by rw [<-HBm.out];exact ab K1.out.blk 29 rfl
 have hb1:b<v1.heap.size:=by omega
 have hbk:v1.heap[b]?=some (.cells (cJ r.h m.gm ov m.gi m.gd m.gp m.pv) 77 (0,0)):=by rw [<-HBm.out];exact K1.out.blk
 have CT:∀u:Has b (.cells (cJ r.h m.gm ov m.gi m.gd m.gp m.pv) 77 (0,0)),u.w.cell? ⟨b,29,none⟩=some (.iface m.pd m.px):=fun u=>ab u.h 29 rfl;have ne:Nonempty (Has b (.cells (cJ r.h m.gm ov m.gi m.gd m.gp m.pv) 77 (0,0))):=⟨⟨v1,hbk⟩⟩;have HBk:Hid _:=hbk;clear h1 hz c29 hbk;generalize cJ r.h m.gm ov m.gi m.gd m.gp m.pv=A at CT ne HBk;refine aN (fun w'=>∃u:Has b (.cells A 77 (0,0)),w'=u.w) 21 (by kernel_rfl) ?_;refine df (by kernel_rfl) (fuel:=7) ⟨⟨v1.drew,HBk.out⟩,rfl⟩ (cR fun _ _ _ _ e h=>⟨e ▸ h.1,h.2⟩) [0,1,2,3,4,5,6,7,8,9,10,12,13,14,15] _ _ (by kernel_rfl) ?_;simp only [gt,List.getElem?_toArray,List.getElem?_cons_zero,List.getElem?_cons_succ];repeat (go_big_quiet_step (fail))
 refine wpQuiet_nil ?_;have D1:=bdr v1;refine cO 11 23 (by kernel_rfl) rfl (by kernel_rfl) (by kernel_rfl) (f:=132) (args:=#[.pointer (some ⟨b,0,none⟩)]) (by kernel_rfl) ?_;rw [<-HBm.out];refine (DN v1.drew (K1.out.low D1)).mono ?_;rintro e v2 ⟨rfl,n2'⟩;rw [HBm.out];have n2:=bst D1 n2';have K2:=hid (K1.out.low n2);have n12:=bst n1 n2;have HB2:=hid (ah HBk n2);refine .inl ⟨_,rfl,fun _=>⟨⟨v2,HB2.out⟩,rfl⟩,?_⟩;simp only [aPt,sTa,sCs,sCz];have H2:=ah H1 n2;have A2:=HP.out.keep HA.out (fun i hi=>(HK.out.xo i hi).2) (Kp.of_below (fun _=>False) n12) (fun _ _ h=>h);obtain ⟨fn,rv,hm,hen,hcall⟩:=HP.out.phys v2 r _ kind va A2 K2.out.cells (Bk K2.out) HC.out HR.out hk0 hk2 ⟨hv0,hv1⟩;rw [HBm.out] at hcall;have HM:Hid _:=hcall;clear hcall A2 n2';refine cO 16 28 (by kernel_rfl) rfl (by kernel_rfl) (by kernel_rfl) (f:=fn) (args:=#[rv,.iface 151 (.pointer (some ⟨b,18,none⟩)),ql r.h,.int .i64 kind,.int .u64 va]) (by go_simp) ?_;refine Calls.mono HM.out ?_;rintro e v3 ⟨pa,code,rfl,hcode,hans,hA3,hk3⟩;have K3:=hid ((K2.out.keep hk3).withK HSh.out);have A3:Hid _:=hA3;have nx:¬X w.heap.size:=fun h=>by have:=(HK.out.xo _ h).2;omega
 have H3:=Kp.hid H2 hk3 nx;have KP:=hid ((Kp.of_below X n12).trans hk3);have l3:=(hpl H3.out);have q1:=CU;have q2:=CV;have q3:=CX;have HB3:=hid (Kp.hid HB2 hk3 (by rw [<-HBm.out];exact HK.out.xb));refine .inl ⟨_,rfl,fun _=>⟨⟨v3,HB3.out⟩,rfl⟩,?_⟩;simp only [aPt,sTa,sCs,sCz];refine df (by kernel_rfl) (fuel:=1) ⟨⟨v3,HB3.out⟩,rfl⟩ (cR fun _ _ _ _ e h=>⟨e ▸ h.1,h.2⟩) [17,18,19,20] _ _ (by kernel_rfl) ?_;simp only [gt,List.getElem?_toArray,List.getElem?_cons_zero,List.getElem?_cons_succ];repeat (go_big_quiet_step (fail))
 refine wpQuiet_nil ?_;refine eM 21 10 (cF code) (by kernel_rfl) rfl (by kernel_rfl) (by kernel_rfl) (by kernel_rfl) (fun _=>⟨⟨v3,HB3.out⟩,rfl⟩) ?_;simp only [aPt,sTa,sCs,sCz];refine bJ (by kernel_rfl) ?_ _;clear hA3 hk3 HM n2 n12 H2 K2 K1 hm HB2 HB3 D1;have HT:=hid hans;clear hans CT ne HBk;rcases hcode with rfl | rfl | rfl
 ·rw [show cF 1=.nilIface from rfl];have k0:=ab H3.out 0 (v:=.int .i64 0) rfl;have k1:=ab H3.out 1 (v:=.int .u64 0) rfl;have k2:=ab H3.out 2 (v:=.int .u64 0) rfl;have k3:=ab H3.out 3 (v:=.int .u64 0) rfl;have f0:=ay H3.out 0;have f1:=ay H3.out 1;have f2:=ay H3.out 2;have f3:=ay H3.out 3;go_wp2_with fail;have g4:=gb4 v3 w.heap.size (.int .i64 kind) (.int .u64 va) (.int .u64 pa) (.int .u64 size);refine bodyPost_ret (v:=.agg #[.int .i64 kind,.int .u64 va,.int .u64 pa,.int .u64 size]) (by simp [results,Tryz.results102,go_sem,k0,k1,k2,k3]) rfl ⟨?_,HK.out.box K3.out g4 nle,HP.out.box A3.out (fun i hi=>(K3.out.xo i hi).2) g4 nx,KP.out.box g4 nle⟩;rw [HT.out];rfl
 ·rw [show cF 2=.iface 248 (.agg #[]) from rfl];have HCo:=hid (rJ 2 kind v3 (by omega));go_wp2_with fail;refine Calls.mono HCo.out ?_;rintro e u ⟨rfl,hu⟩;rw [hu];clear hu u;go_wp2_with fail;refine ⟨rfl,?_,K3.out,A3.out,KP.out⟩;have ht:=congrArg Prod.fst HT.out;simp only at ht;rw [ht];exact (if_neg (zf kind)).symm
 ·rw [show cF 3=.iface 249 (.agg #[]) from rfl];have HCo:=hid (rJ 3 kind v3 (by omega));go_wp2_with fail;refine Calls.mono HCo.out ?_;rintro e u ⟨rfl,hu⟩;rw [hu];clear hu u;go_wp2_with fail;refine ⟨rfl,?_,K3.out,A3.out,KP.out⟩;have ht:=congrArg Prod.fst HT.out;simp only at ht;rw [ht];exact (if_neg (eT kind)).symm
theorem BC (x:Int) (w:World) (h0:0<=x) (h1:x<=18446744073709551615):
 Calls Tryz.prog 177 #[.int .u64 x] w fun e w'=>e=.returned (.int .u64 (dG x))∧w'=w:=by
 go_enter Tryz.func177,Tryz.ntmps177;go_wp2_with (go_at_call 185;refine (uo x _ h0 h1).mono ?_;rintro e w' ⟨rfl,rfl⟩);go_ret;exact ⟨rfl,rfl⟩
end Go.Proofs.YtpdddbobhndbjaaGreat
