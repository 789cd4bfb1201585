import Derived.Test.YtkenjknmfhoppaaGreatSk05
import Derived.Test.YtkenjknmfhoppaaGreatSk03
namespace Go.Proofs.YtkenjknmfhoppaaGreat
open Go.RowKit
set_option linter.unusedVariables false
set_option maxHeartbeats 6400000
set_option maxRecDepth 20000
def gn (x kind:Int) (mxr:Bool):Bool:=if kind=0 then bX x 8 else if kind=1 then bX x 2 || (mxr && bX x 8) else if kind=2 then bX x 4 else false
theorem jY (x kind:Int) (mxr:Bool) (w:World) (h0:0<=x) (h1:x<=18446744073709551615):
 Calls Tryz.prog 206 #[VU x,VI kind,.bool mxr] w fun e w'=>e=.returned (.bool (gn x kind mxr))∧w'=w:=by
 have HR:=hid (dX 1 x 2 rfl (by omega) h0 h1);have HW:=hid (dX 2 x 4 rfl (by omega) h0 h1);have HX:=hid (dX 3 x 8 rfl (by omega) h0 h1);by_cases k0:kind=0
 ·subst k0;go_enter Tryz.func206,Tryz.ntmps206;go_wp2_with (go_at_call 164;refine (dR x _ _).mono ?_;rintro e w' ⟨rfl,rfl⟩;rw [HX.out]);go_ret;exact ⟨rfl,rfl⟩
 have k0':(kind == 0)=false:=by simpa using k0
 by_cases k1:kind=1
 ·subst k1;cases hr:bX x 2 <;> cases mxr;all_goals
   go_enter Tryz.func206,Tryz.ntmps206;go_wp2_with (go_at_call 164;refine (dR x _ _).mono ?_;rintro e w' ⟨rfl,rfl⟩;first | rw [HR.out,hr] | rw [HX.out]);go_ret;exact ⟨aD (by simp [gn,hr]),rfl⟩
 have k1':(kind == 1)=false:=by simpa using k1
 by_cases k2:kind=2
 ·subst k2;go_enter Tryz.func206,Tryz.ntmps206;go_wp2_with (go_at_call 164;refine (dR x _ _).mono ?_;rintro e w' ⟨rfl,rfl⟩;rw [HW.out]);go_ret;exact ⟨rfl,rfl⟩
 have k2':(kind == 2)=false:=by simpa using k2
 have HE:Hid (gn x kind mxr=false):=by show _=_;rw [gn,if_neg k0,if_neg k1,if_neg k2]
 clear k0 k1 k2;go_enter Tryz.func206,Tryz.ntmps206;go_wp2;go_ret;exact ⟨aD HE.out.symm,rfl⟩
def gt (x kind mode:Int) (sum:Bool):Bool:=if mode=0 then bX x 16 else if mode=1 then !bX x 16 || (sum && kind != 0) else false
theorem oA (x kind mode:Int) (sum:Bool) (w:World) (h0:0<=x) (h1:x<=18446744073709551615):
 Calls Tryz.prog 207 #[VU x,VI kind,VI mode,.bool sum] w fun e w'=>e=.returned (.bool (gt x kind mode sum))∧w'=w:=by
 have HU:=hid (dX 4 x 16 rfl (by omega) h0 h1);by_cases k0:mode=0
 ·subst k0;go_enter Tryz.func207,Tryz.ntmps207;go_wp2_with (go_at_call 164;refine (dR x _ _).mono ?_;rintro e w' ⟨rfl,rfl⟩;rw [HU.out]);go_ret;exact ⟨rfl,rfl⟩
 have k0':(mode == 0)=false:=by simpa using k0
 by_cases k1:mode=1
 ·subst k1;cases hu:bX x 16 <;> cases sum;all_goals
   go_enter Tryz.func207,Tryz.ntmps207;go_wp2_with (go_at_call 164;refine (dR x _ _).mono ?_;rintro e w' ⟨rfl,rfl⟩;rw [HU.out,hu]);all_goals
    go_ret;exact ⟨aD (by simp_all [gt]),rfl⟩
 have k1':(mode == 1)=false:=by simpa using k1
 have HE:Hid (gt x kind mode sum=false):=by show _=_;rw [gt,if_neg k0,if_neg k1]
 clear k0 k1;go_enter Tryz.func207,Tryz.ntmps207;go_wp2;go_ret;exact ⟨aD HE.out.symm,rfl⟩
def nm (x kind:Int):Bool:=bX x 64 && (kind != 2 || bX x 128)
theorem BY (x kind:Int) (w:World) (h0:0<=x) (h1:x<=18446744073709551615):
 Calls Tryz.prog 208 #[VU x,VI kind] w fun e w'=>e=.returned (.bool (nm x kind))∧w'=w:=by
 have HA:=hid (dX 6 x 64 rfl (by omega) h0 h1);have HD:=hid (dX 7 x 128 rfl (by omega) h0 h1);cases ha:bX x 64
 ·go_enter Tryz.func208,Tryz.ntmps208;go_wp2_with (go_at_call 164;refine (dR x _ _).mono ?_;rintro e w' ⟨rfl,rfl⟩;rw [HA.out,ha]);go_ret;exact ⟨aD (by simp [nm,ha]),rfl⟩
 ·cases hk:(kind != 2)
  ·go_enter Tryz.func208,Tryz.ntmps208;go_wp2_with (go_at_call 164;refine (dR x _ _).mono ?_;rintro e w' ⟨rfl,rfl⟩;first | rw [HA.out,ha] | rw [HD.out]);go_ret;exact ⟨aD (by simp [nm,ha,hk]),rfl⟩
  ·go_enter Tryz.func208,Tryz.ntmps208;go_wp2_with (go_at_call 164;refine (dR x _ _).mono ?_;rintro e w' ⟨rfl,rfl⟩;first | rw [HA.out,ha] | rw [HD.out]);go_ret;exact ⟨aD (by simp [nm,ha,hk]),rfl⟩
theorem yI (x kind mode:Int) (sum mxr:Bool):du x kind mode sum mxr=(gn x kind mxr && gt x kind mode sum && nm x kind):=by
 simp only [du,gn,gt,nm];by_cases k0:kind=0
 ·subst k0;simp only [if_pos];cases bX x 8 <;> cases bX x 64 <;> simp <;> split <;> simp
 by_cases k1:kind=1
 ·subst k1;simp only [if_neg k0,if_pos];by_cases m0:mode=0
  ·subst m0;simp
  by_cases m1:mode=1
  ·subst m1;simp
  ·simp [m0,m1]
 by_cases k2:kind=2
 ·subst k2;by_cases m0:mode=0
  ·subst m0;simp;cases bX x 64 <;> cases bX x 128 <;> cases bX x 4 <;> simp
  by_cases m1:mode=1
  ·subst m1;simp;cases bX x 64 <;> cases bX x 128 <;> cases bX x 4 <;> cases bX x 16 <;> cases sum <;> simp
  ·simp [m0,m1]
 ·simp [k0,k1,k2]
theorem mE (x kind mode:Int) (sum mxr:Bool) (w:World) (h0:0<=x) (h1:x<=18446744073709551615):
 Calls Tryz.prog 200 #[VU x,VI kind,VI mode,.bool sum,.bool mxr] w fun e w'=>e=.returned (.bool (du x kind mode sum mxr))∧w'=w:=by
 rw [yI];cases hk:gn x kind mxr
 ·go_enter Tryz.func200,Tryz.ntmps200;go_wp2_with (first
   | (go_at_call 206;refine (jY x kind mxr _ h0 h1).mono ?_;rintro e w' ⟨rfl,rfl⟩;rw [hk]))
  go_ret;exact ⟨aD (by simp),rfl⟩
 cases hm:gt x kind mode sum
 ·go_enter Tryz.func200,Tryz.ntmps200;go_wp2_with (first
   | (go_at_call 206;refine (jY x kind mxr _ h0 h1).mono ?_;rintro e w' ⟨rfl,rfl⟩;rw [hk])
   | (go_at_call 207;refine (oA x kind mode sum _ h0 h1).mono ?_;rintro e w' ⟨rfl,rfl⟩;rw [hm]))
  go_ret;exact ⟨aD (by simp),rfl⟩
 ·go_enter Tryz.func200,Tryz.ntmps200;go_wp2_with (first
   | (go_at_call 206;refine (jY x kind mxr _ h0 h1).mono ?_;rintro e w' ⟨rfl,rfl⟩;rw [hk])
   | (go_at_call 207;refine (oA x kind mode sum _ h0 h1).mono ?_;rintro e w' ⟨rfl,rfl⟩;rw [hm])
   | (go_at_call 208;refine (BY x kind _ h0 h1).mono ?_;rintro e w' ⟨rfl,rfl⟩))
  go_ret;exact ⟨aD (by simp),rfl⟩
theorem lk (level m:Int) (w:World) (h:(level=0∧m=63)∨(level=1∧m=511)∨(level=2∧m=4095)):
 Calls Tryz.prog 218 #[VI level] w fun e w'=>e=.returned (VU m)∧w'=w:=by
 rcases h with ⟨rfl,rfl⟩ | ⟨rfl,rfl⟩ | ⟨rfl,rfl⟩
 ·go_enter Tryz.func218,Tryz.ntmps218;go_wp2_with (go_at_call 118;refine (dB 6 63 _ (by omega)).mono ?_;rintro e w' ⟨rfl,rfl⟩);go_ret;exact ⟨rfl,rfl⟩
 ·go_enter Tryz.func218,Tryz.ntmps218;go_wp2_with (go_at_call 118;refine (dB 9 511 _ (by omega)).mono ?_;rintro e w' ⟨rfl,rfl⟩);go_ret;exact ⟨rfl,rfl⟩
 ·go_enter Tryz.func218,Tryz.ntmps218;go_wp2_with (go_at_call 118;refine (dB 12 4095 _ (by omega)).mono ?_;rintro e w' ⟨rfl,rfl⟩);go_ret;exact ⟨rfl,rfl⟩
theorem EO (x level va:Int) (w:World) (h0:0<=x) (h1:x<=18446744073709551615) (hl:level=0∨level=1∨level=2) (hv0:0<=va) (hv1:va<=18446744073709551615):
 Calls Tryz.prog 214 #[VU x,VI level,VU va] w fun e w'=>e=.returned (VU (gM x level va))∧w'=w:=by
 have hpp:0<=dI x∧dI x<17592186044416:=⟨Int.emod_nonneg _ (by omega),Int.emod_lt_of_pos _ (by omega)⟩;have HP:∀w,Hid (Calls Tryz.prog 212 #[VU x] w fun e w'=>e=.returned (VU (dI x))∧w'=w):=fun w=>vH x w h0 h1;have HE:Hid (gM x level va=dI x*64/iu level*iu level+va%iu level):=by
  show _=_;rw [gM,if_neg (by omega)]
 rw [HE.out];clear HE;generalize dI x=p at *;rcases hl with rfl | rfl | rfl
 ·have H:Hid (bits .or .u64 (bits .andNot .u64 (p*64) 63) (bits .and .u64 va 63)=p*64/iu 0*iu 0+va%iu 0):=
   oW 6 (p*64) va 63 64 rfl rfl (by omega) (by omega) (by omega) hv0 hv1
  go_enter Tryz.func214,Tryz.ntmps214;go_wp2_with (first
   | (go_at_call 212;refine ((HP _).out).mono ?_;rintro e w' ⟨rfl,rfl⟩)
   | (go_at_call 218;refine (lk 0 63 _ (by omega)).mono ?_;rintro e w' ⟨rfl,rfl⟩))
  go_ret;exact ⟨dW H.out,rfl⟩
 ·have H:Hid (bits .or .u64 (bits .andNot .u64 (p*64) 511) (bits .and .u64 va 511)=p*64/iu 1*iu 1+va%iu 1):=
   oW 9 (p*64) va 511 512 rfl rfl (by omega) (by omega) (by omega) hv0 hv1
  go_enter Tryz.func214,Tryz.ntmps214;go_wp2_with (first
   | (go_at_call 212;refine ((HP _).out).mono ?_;rintro e w' ⟨rfl,rfl⟩)
   | (go_at_call 218;refine (lk 1 511 _ (by omega)).mono ?_;rintro e w' ⟨rfl,rfl⟩))
  go_ret;exact ⟨dW H.out,rfl⟩
 ·have H:Hid (bits .or .u64 (bits .andNot .u64 (p*64) 4095) (bits .and .u64 va 4095)=p*64/iu 2*iu 2+va%iu 2):=
   oW 12 (p*64) va 4095 4096 rfl rfl (by omega) (by omega) (by omega) hv0 hv1
  go_enter Tryz.func214,Tryz.ntmps214;go_wp2_with (first
   | (go_at_call 212;refine ((HP _).out).mono ?_;rintro e w' ⟨rfl,rfl⟩)
   | (go_at_call 218;refine (lk 2 4095 _ (by omega)).mono ?_;rintro e w' ⟨rfl,rfl⟩))
  go_ret;exact ⟨dW H.out,rfl⟩
theorem DC (va level:Int) (w:World) (hv0:0<=va) (hv1:va<=18446744073709551615) (hl:level=0∨level=1∨level=2):
 Calls Tryz.prog 215 #[VU va,VI level] w fun e w'=>e=.returned (VU (dF va level))∧∃n,w'=w.drewN n:=by
 rcases hl with rfl | rfl | rfl
 ·have H:=hid (eX 3 (va/64) 7 rfl (by omega) (by omega) (by omega));go_enter Tryz.func215,Tryz.ntmps215;go_wp2;go_quiet ((go_at_call 118;exact Calls.quiet_of_same (dB 3 7 _ (by omega))));go_wp2;go_ret;exact ⟨dW H.out,nq,rfl⟩
 ·have H:=hid (eX 3 (va/512) 7 rfl (by omega) (by omega) (by omega));go_enter Tryz.func215,Tryz.ntmps215;go_wp2;go_quiet ((go_at_call 118;exact Calls.quiet_of_same (dB 3 7 _ (by omega))));go_wp2;go_ret;exact ⟨dW H.out,nq,rfl⟩
 ·have H:=hid (eX 3 (va/4096) 7 rfl (by omega) (by omega) (by omega));go_enter Tryz.func215,Tryz.ntmps215;go_wp2;go_quiet ((go_at_call 118;exact Calls.quiet_of_same (dB 3 7 _ (by omega))));go_wp2;go_ret;exact ⟨dW H.out,nq,rfl⟩
theorem wi (n level va:Int) (w:World) (hv0:0<=va) (hv1:va<=18446744073709551615) (hl:level=0∨level=1∨level=2) (hn0:0<=n) (hn1:n<17592186044416):
 Calls Tryz.prog 210 #[VU n,VI level,VU va] w fun e w'=>e=.returned (VU (64*n+8*dF va level))∧∃q,w'=w.drewN q:=by
 obtain ⟨ix,hix⟩:∃ix,dF va level=ix:=⟨_,rfl⟩;have hib:=rG va level;have HI:=hid hix;have HE:Hid (n*64+ix*8=64*n+8*ix):=show _=_ by omega
 rw [hix] at hib |-;clear hix;go_enter Tryz.func210,Tryz.ntmps210;go_wp2_with fail;refine (DC va level w hv0 hv1 hl).mono ?_;rintro e w' ⟨rfl,nq,rfl⟩;rw [HI.out];go_wp2;go_ret;exact ⟨dW HE.out,nq,rfl⟩
theorem yF (a:Option Addr) (len cap:Nat) (addr:Int) (w:World) (hl:len<=1048576) (h0:0<=addr) (h1:addr<=18446744073709551615) (hg:dU len addr 8=false):
 Calls Tryz.prog 221 #[.slice a len cap,VU addr] w fun e w'=>e=.returned (.tuple #[VU 0,.bool false])∧w'=w:=by
 have HG:=hid hg;clear hg;go_enter Tryz.func221,Tryz.ntmps221;go_wp2_with (go_at_call 222;refine (ul _ _ _ _ _ _ hl h0 h1 (by omega)).mono ?_;rintro e w' ⟨rfl,rfl⟩;rw [HG.out]);exact bodyPost_ret (v:=.tuple #[VU 0,.bool false]) (by simp [results,Tryz.results221,go_sem]) rfl ⟨rfl,rfl⟩
theorem zO (a:Option Addr) (len cap:Nat) (zs:List Int) (addr:Int) (w:World) (h:Byt w a len zs) (hl:len<=1048576) (h0:0<=addr) (h1:addr<=18446744073709551615) (hg:dU len addr 8=true):
 Calls Tryz.prog 221 #[.slice a len cap,VU addr] w fun e w'=>e=.returned (.tuple #[VU (rdV zs addr 8),.bool true])∧w'=w:=by
 have hz:=h.1;have hv:rdV zs addr 8=num ((zs.drop addr.toNat).take 8):=by simp [rdV,hz,hg]
 rw [hv];have hg':=hg;simp only [dU,decide_eq_true_eq] at hg';obtain ⟨hn,hn1,hn2⟩:=hg';obtain ⟨k,rfl⟩:=Int.eq_ofNat_of_zero_le h0;obtain ⟨b,off,rfl⟩:∃b off,a=some (AD b off):=by
  rcases h.2.2 with hy | ⟨b,off,rfl,hb,hcl⟩
  ·omega
  ·exact ⟨b,off,rfl⟩
 have HG:=hid hg;have HC:=Cel.of_byt h;clear hg hv h;rw [Int.toNat_natCast];go_enter Tryz.func221,Tryz.ntmps221;go_wp2_with (first
  | (go_at_call 222;refine (ul _ _ _ _ _ _ hl h0 h1 (by omega)).mono ?_;rintro e w' ⟨rfl,rfl⟩;rw [HG.out])
  | (go_at_call 223;refine (AT b off len cap k zs _ HC (by omega) hl).mono ?_;rintro e w' ⟨rfl,rfl⟩))
 exact bodyPost_ret (v:=.tuple #[VU (num ((zs.drop k).take 8)),.bool true]) (by simp [results,Tryz.results221,go_sem]) rfl ⟨rfl,rfl⟩
theorem FT (w:World):(Instr.typeAssert (.iface 288 (.agg #[])) 281 288 true).run Tryz.prog w=.ok (.tuple #[.agg #[],.bool true]) w:=by kernel_rfl
theorem FU (w:World):(Instr.typeAssert (.iface 289 (.agg #[])) 281 288 true).run Tryz.prog w=.ok (.tuple #[.agg #[],.bool false]) w:=by kernel_rfl
theorem FV (w:World):(Instr.typeAssert (.iface 289 (.agg #[])) 281 289 true).run Tryz.prog w=.ok (.tuple #[.agg #[],.bool true]) w:=by kernel_rfl
theorem FW (w:World):(Instr.typeAssert .nilIface 281 288 true).run Tryz.prog w=.ok (.tuple #[.agg #[],.bool false]) w:=by kernel_rfl
theorem FX (w:World):(Instr.typeAssert .nilIface 281 289 true).run Tryz.prog w=.ok (.tuple #[.agg #[],.bool false]) w:=by kernel_rfl
def cM (code:Int):Value:=if code=1 then .nilIface else if code=2 then .iface 288 (.agg #[]) else .iface 289 (.agg #[])
theorem vO (kind:Int) (w:World):Calls Tryz.prog 171 #[VI kind] w fun e w'=>e=.returned (VI (eR kind))∧w'=w:=by
 by_cases k0:kind=0
 ·subst k0;go_enter Tryz.func171,Tryz.ntmps171;go_wp2;go_ret;exact ⟨rfl,rfl⟩
 have k0':(kind == 0)=false:=by simpa using k0
 by_cases k1:kind=1
 ·subst k1;go_enter Tryz.func171,Tryz.ntmps171;go_wp2;go_ret;exact ⟨rfl,rfl⟩
 have k1':(kind == 1)=false:=by simpa using k1
 have HE:Hid (eR kind=15):=by show _=_;rw [eR,if_neg k0,if_neg k1]
 clear k0 k1;go_enter Tryz.func171,Tryz.ntmps171;go_wp2;go_ret;exact ⟨cC HE.out.symm,rfl⟩
theorem mp (kind:Int) (w:World):Calls Tryz.prog 165 #[VI kind] w fun e w'=>e=.returned (VI (bP kind))∧w'=w:=by
 by_cases k0:kind=0
 ·subst k0;go_enter Tryz.func165,Tryz.ntmps165;go_wp2;go_ret;exact ⟨rfl,rfl⟩
 have k0':(kind == 0)=false:=by simpa using k0
 by_cases k1:kind=1
 ·subst k1;go_enter Tryz.func165,Tryz.ntmps165;go_wp2;go_ret;exact ⟨rfl,rfl⟩
 have k1':(kind == 1)=false:=by simpa using k1
 have HE:Hid (bP kind=7):=by show _=_;rw [bP,if_neg k0,if_neg k1]
 clear k0 k1;go_enter Tryz.func165,Tryz.ntmps165;go_wp2;go_ret;exact ⟨cC HE.out.symm,rfl⟩
theorem sK (c kind:Int) (w:World) (hc:c=1∨c=2∨c=3):
 Calls Tryz.prog 167 #[cM c,VI kind] w fun e w'=>e=.returned (VI (if c=1 then 0 else if c=2 then eR kind else bP kind))∧w'=w:=by
 have t1:=FT;have t2:=FU;have t3:=FV;have t4:=FW;have t5:=FX;rcases hc with rfl | rfl | rfl;all_goals
  simp only [cM,if_pos,Int.reduceEq];go_enter Tryz.func167,Tryz.ntmps167;go_wp2_with (first
   | (go_at_call 171;refine (vO kind _).mono ?_;rintro e w' ⟨rfl,rfl⟩)
   | (go_at_call 165;refine (mp kind _).mono ?_;rintro e w' ⟨rfl,rfl⟩))
  go_ret;exact ⟨rfl,rfl⟩
def tQ (acc:List ef) (r:Int × Int × Int × List ef):Int × Int × Int × List ef:=(r.1,r.2.1,r.2.2.1,acc++r.2.2.2)
theorem uE (zs:List Int) (va:Int) (k:Nat) (n:Int) (h:dU zs.length (64*n+8*dF va k) 8=false):cQ zs va k n=(3,(k:Int),0,[]):=by
 unfold cQ;rw [if_pos h]
theorem uF (zs:List Int) (va:Int) (k:Nat) (n:Int) (h:dU zs.length (64*n+8*dF va k) 8=true) (hk:bH (rdV zs (64*n+8*dF va k) 8) k=0):cQ zs va k n=(2,(k:Int),0,[]):=by
 unfold cQ;rw [if_neg (by rw [h];simp),if_pos hk]
theorem sL (zs:List Int) (va:Int) (k:Nat) (n:Int) (h:dU zs.length (64*n+8*dF va k) 8=true) (hk:bH (rdV zs (64*n+8*dF va k) 8) k=2):cQ zs va k n=(1,(k:Int),rdV zs (64*n+8*dF va k) 8,[((k:Int),64*n+8*dF va k,rdV zs (64*n+8*dF va k) 8)]):=by
 unfold cQ;rw [if_neg (by rw [h];simp),if_neg (by rw [hk];decide),if_pos hk]
theorem sM (zs:List Int) (va:Int) (k:Nat) (n:Int) (h:dU zs.length (64*n+8*dF va ((k+1:Nat):Int)) 8=true) (hk:bH (rdV zs (64*n+8*dF va ((k+1:Nat):Int)) 8) ((k+1:Nat):Int)=1):
 cQ zs va (k+1) n=tQ [(((k+1:Nat):Int),64*n+8*dF va ((k+1:Nat):Int),rdV zs (64*n+8*dF va ((k+1:Nat):Int)) 8)] (cQ zs va k (dI (rdV zs (64*n+8*dF va ((k+1:Nat):Int)) 8))):=by
 rw [cQ,if_neg (by rw [h];simp),if_neg (by rw [hk];decide),if_neg (by rw [hk];decide)];rfl
theorem C5 (a b:List ef) (r:Int × Int × Int × List ef):tQ a (tQ b r)=tQ (a++b) r:=by
 simp [tQ]
def zv (base:Nat) (w':World) (e:Ending) (r:Int × Int × Int × List ef):Prop:=
 ∃ra rc,e=.returned (.tuple #[.agg #[VI r.2.1,VU r.2.2.1,.slice ra r.2.2.2.length rc],cM r.1])∧w'.ownsRow base 142 3 (.slice ra r.2.2.2.length rc) r.2.2.2.length (dc r.2.2.2)
def Ak (w:World) (p:Nat):Nat:=match w.cell? (AD p 0) with
 | some v=>(intOf v).toNat
 | none=>0
def SrcAt (w:World) (sv:Value) (zs:List Int):Prop:=
 ∃d x a len cap,sv=.iface d x∧(∀u,Bw w u->(method 444 d x "loop.example/s0051/impl.entryAt").run Tryz.prog u=.ok (221,.slice a len cap) u)∧Byt w a len zs∧len<=1048576
theorem SrcAt.keep {w w':World} {sv:Value} {zs:List Int} (h:SrcAt w sv zs) (hb:Bw w w'):SrcAt w' sv zs:=by
 obtain ⟨d,x,a,len,cap,rfl,hm,hB,hl⟩:=h;exact ⟨d,x,a,len,cap,rfl,fun u hu=>hm u (bst hb hu),hB.keep hb,hl⟩
theorem SrcAt.bd {w:World} {sv:Value} {zs:List Int} (h:SrcAt w sv zs):∀i:Nat,0<=zs[i]?.getD 0∧zs[i]?.getD 0<=255:=by
 obtain ⟨d,x,a,len,cap,rfl,hm,hB,hl⟩:=h;exact hB.2.1
theorem kR:∀a b:List ef,dc (a++b)=dc a++dc b
 | [],b=>rfl
 | r::a,b=>by simp [dc,kR a b]
theorem pO (sv:Value) (zs:List Int) (va n:Int) (l:Nat) (w:World) (hB:SrcAt w sv zs) (hl:l<=2) (hv0:0<=va) (hv1:va<=18446744073709551615) (hn0:0<=n) (hn1:n<17592186044416):
 Calls Tryz.prog 203 #[sv,VU n,VI l,VU va] w fun e w'=>zv w.heap.size w' e (cQ zs va l n)∧Bw w w':=by
 obtain ⟨dT,xS,a,len,cap,rfl,hm,hB,hlen⟩:=hB;have hz:=hB.1;have hzb:=hB.2.1;have HB:=hid hB;have HMt:Hid _:=hm;obtain ⟨X,hX⟩:∃X,cQ zs va l n=X:=⟨_,rfl⟩;have HX:Hid (X=tQ [] (cQ zs va l n)):=by show _=_;rw [<-hX];rfl
 rw [hX];clear hX hB hm;have s0:Hid (((w.alloc (Obj.cells #[VI 0,VU 0,SN] 312)).alloc (Obj.cells #[VI l,VU 0,SN] 312)).heap[w.heap.size+1]?=some (.cells #[VI l,VU 0,SN] 312 (0,0))):=by
  have:=er (w.alloc (Obj.cells #[VI 0,VU 0,SN] 312)) (Obj.cells #[VI l,VU 0,SN] 312);simp only [World.size_alloc] at this;exact this
 have r0:Hid (((w.alloc (Obj.cells #[VI 0,VU 0,SN] 312)).alloc (Obj.cells #[VI l,VU 0,SN] 312)).heap[w.heap.size]?=some (.cells #[VI 0,VU 0,SN] 312 (0,0))):=by
  show _=_;rw [rf _ _ (by simp)];exact er w _
 have b0:Bw w ((w.alloc (Obj.cells #[VI 0,VU 0,SN] 312)).alloc (Obj.cells #[VI l,VU 0,SN] 312)):=((Below.refl w.heap.size w).alloc nle _).alloc (by simp) _;go_enter Tryz.func203,Tryz.ntmps203;go_wp2;go_loopw [1] (fun tt wr=>∃(k:Nat) (n':Int) (ra:Option Addr) (rc:Nat) (acc:List ef),k<=l∧tt=VU n'∧0<=n'∧n'<17592186044416∧acc.length+k<=2∧wr.heap[w.heap.size+1]?=some (.cells #[VI k,VU 0,.slice ra acc.length rc] 312 (0,0))∧
  wr.heap[w.heap.size]?=some (.cells #[VI 0,VU 0,SN] 312 (0,0))∧wr.ownsRow (w.heap.size+2) 142 3 (.slice ra acc.length rc) acc.length (dc acc)∧Hid (X=tQ acc (cQ zs va k n'))∧Bw w wr) (fun _ wr=>Ak wr (w.heap.size+1))
 case atStart=>exact ⟨l,n,none,0,[],nle,rfl,hn0,hn1,by simpa using hl,s0.out,r0.out,World.ownsRow_nil _ _ _ _,HX,b0⟩
 case round=>
  clear s0 r0 b0 HX hn0 hn1;obtain ⟨k,n',ra,rc,acc,hk,rfl,hn0,hn1,hac,hS,hR,hO,HX,hb⟩:=hrel;have HS:=hid hS;have HR:=hid hR;have HO:=hid hO;have hlt:=(hpl hS);have HM:Hid (Ak wr (w.heap.size+1)=k):=by
   show _=_;rw [Ak,(aA hS).1.1];rfl
  obtain ⟨⟨c0,c1,c2⟩,e0,e1,e2⟩:=aA hS;clear hS hR hO;obtain ⟨ix,hix⟩:∃ix,dF va (k:Int)=ix:=⟨_,rfl⟩;have hib:=rG va (k:Int);rw [hix] at hib;obtain ⟨rv,hrv⟩:∃rv,rdV zs (64*n'+8*ix) 8=rv:=⟨_,rfl⟩;have hrb:=oL zs (64*n'+8*ix) 8 (by omega) hzb;rw [hrv] at hrb;have HI:=hid hix;have HV:Hid (rdV zs (64*n'+8*ix) 8=rv):=hrv;clear hix hrv;go_wp2_with fail;refine (wi n' k va wr hv0 hv1 (by omega) hn0 hn1).mono ?_;rintro e w' ⟨rfl,nq,rfl⟩;rw [HI.out];have HS1:Hid ((wr.drewN nq).heap[w.heap.size+1]?=some (.cells #[VI k,VU 0,.slice ra acc.length rc] 312 (0,0))):=HS;have HR1:Hid ((wr.drewN nq).heap[w.heap.size]?=some (.cells #[VI 0,VU 0,SN] 312 (0,0))):=HR;have HO1:Hid ((wr.drewN nq).ownsRow (w.heap.size+2) 142 3 (.slice ra acc.length rc) acc.length (dc acc)):=HO;have hlt1:w.heap.size+1<(wr.drewN nq).heap.size:=hlt;have hb1:Bw w (wr.drewN nq):=below_drewN hb nq;generalize wr.drewN nq=v1 at HS1 HR1 HO1 hlt1 hb1 |-;clear c0 c1 c2 e0 e1 e2 HS HR HO hlt hb;obtain ⟨⟨c0,c1,c2⟩,e0,e1,e2⟩:=aA HS1.out;obtain ⟨⟨d0,d1,d2⟩,f0,f1,f2⟩:=aA HR1.out;have hm:=HMt.out v1 hb1;cases hg:dU len (64*n'+8*ix) 8
  ·have HG:Hid (dU len (64*n'+8*ix) 8=false):=hg;clear hg;go_wp2_with fail;refine (yF a len cap (64*n'+8*ix) v1 hlen (by omega) (by omega) HG.out).mono ?_;rintro e w' ⟨rfl,rfl⟩;go_wp2_with fail;have hX:X=(3,(k:Int),0,acc):=by
    rw [HX.out,uE zs va k n' (by rw [hz,HI.out];exact HG.out)];simp [tQ]
   refine bodyPost_ret (v:=.tuple #[.agg #[VI k,VU 0,.slice ra acc.length rc],.iface 289 (.agg #[])]) (by simp [results,Tryz.results203,go_sem,d0,d1,d2]) rfl ?_;rw [hX];exact ⟨⟨ra,rc,rfl,aJ (aG HO1.out (gb3 _ w.heap.size _ _ _) (by omega)) (by omega)⟩,gQ hb1 nle _ _ _⟩
  ·have HG:Hid (dU len (64*n'+8*ix) 8=true):=hg;clear hg;go_wp2_with fail;refine (zO a len cap zs (64*n'+8*ix) v1 (HB.out.keep hb1) hlen (by omega) (by omega) HG.out).mono ?_;rintro e w' ⟨rfl,rfl⟩;rw [HV.out];rcases mR rv (k:Int) with hkd | hkd | hkd
   ·have HK:Hid (bH rv (k:Int)=0):=hkd;clear hkd;go_wp2_with fail;refine (pN rv k _ hrb.1 hrb.2).mono ?_;rintro e w' ⟨rfl,rfl⟩;rw [HK.out];go_wp2_with fail;have hX:X=(2,(k:Int),0,acc):=by
     rw [HX.out,uF zs va k n' (by rw [hz,HI.out];exact HG.out) (by rw [HI.out,HV.out];exact HK.out)];simp [tQ]
    refine bodyPost_ret (v:=.tuple #[.agg #[VI k,VU 0,.slice ra acc.length rc],.iface 288 (.agg #[])]) (by simp [results,Tryz.results203,go_sem,d0,d1,d2]) rfl ?_;rw [hX];exact ⟨⟨ra,rc,rfl,aJ (aG HO1.out (gb3 _ w.heap.size _ _ _) (by omega)) (by omega)⟩,gQ hb1 nle _ _ _⟩
   ·have HK:Hid (bH rv (k:Int)=1):=hkd;clear hkd;go_wp2_with fail;refine (pN rv k _ hrb.1 hrb.2).mono ?_;rintro e v3 ⟨rfl,rfl⟩;rw [HK.out];have n4:=(Below.refl v3.heap.size v3).alloc nle (Obj.cells #[VI k,VU (64*n'+8*ix),VU rv] 142);have HS4:Hid ((v3.alloc (Obj.cells #[VI k,VU (64*n'+8*ix),VU rv] 142)).heap[w.heap.size+1]?=some (.cells #[VI k,VU 0,.slice ra acc.length rc] 312 (0,0))):=ag HS1.out n4 hlt1;have HR4:Hid ((v3.alloc (Obj.cells #[VI k,VU (64*n'+8*ix),VU rv] 142)).heap[w.heap.size]?=some (.cells #[VI 0,VU 0,SN] 312 (0,0))):=ag HR1.out n4 (by omega);have HO4:Hid ((v3.alloc (Obj.cells #[VI k,VU (64*n'+8*ix),VU rv] 142)).ownsRow (w.heap.size+2) 142 3 (.slice ra acc.length rc) acc.length (dc acc)):=aj HO1.out n4;have HW4:Hid (RowC (v3.alloc (Obj.cells #[VI k,VU (64*n'+8*ix),VU rv] 142)) (some (AD v3.heap.size 0)) 1 3 (dc [((k:Int),64*n'+8*ix,rv)])):=(OwnC.new 142 3 v3 (dc [((k:Int),64*n'+8*ix,rv)]) 1 (by rfl) (by decide)).row;have l4:v3.heap.size<(v3.alloc (Obj.cells #[VI k,VU (64*n'+8*ix),VU rv] 142)).heap.size:=by simp
    have b4:Bw w (v3.alloc (Obj.cells #[VI k,VU (64*n'+8*ix),VU rv] 142)):=hb1.alloc (by omega) _;go_wp2_with (at_builtin;refine mw _ rfl (.tmp 43) (.tmp 49) 136 rfl 142 Tryz.underlying136 (.agg #[VI 0,VU 0,VU 0]) 3 24 Tryz.infoRec rfl (by decide) (w.heap.size+2) acc.length _ (dc acc) rfl HO4.out v3.heap.size 0 1 1 (dc [((k:Int),64*n'+8*ix,rv)]) rfl (by omega) HW4.out (mQ _) (by omega) (by omega) (by omega) (w.heap.size+2) _ brf nle ?_;intro g5 cp5 v5 o5 n5;have HO5:Hid (v5.ownsRow (w.heap.size+2) 142 3 (SL g5 (acc.length+1) cp5) (acc.length+1) (dc acc++dc [((k:Int),64*n'+8*ix,rv)])):=o5;have HS5:Hid (v5.heap[w.heap.size+1]?=some (.cells #[VI k,VU 0,.slice ra acc.length rc] 312 (0,0))):=(n5.block _ (by omega)).trans HS4.out;have HR5:Hid (v5.heap[w.heap.size]?=some (.cells #[VI 0,VU 0,SN] 312 (0,0))):=(n5.block _ (by omega)).trans HR4.out;have b5:Bw w v5:=b4.trans (n5.mono (by omega));have l5:=n5.size;clear c0 c1 c2 e0 e1 e2 d0 d1 d2 f0 f1 f2 o5;obtain ⟨⟨c0,c1,c2⟩,e0,e1,e2⟩:=aA HS5.out;obtain ⟨⟨d0,d1,d2⟩,f0,f1,f2⟩:=aA HR5.out;clear n5 n4 HS4 HR4 HO4 HW4 b4 HS1 HR1 HO1);have HS6:Hid ((v5.setCell ⟨w.heap.size+1,2,none⟩ (SL g5 (acc.length+1) cp5)).heap[w.heap.size+1]?=some (.cells #[VI k,VU 0,SL g5 (acc.length+1) cp5] 312 (0,0))):=ET HS5.out;have m6:=aq (aw v5 (some (w.heap.size+1))) 2 (SL g5 (acc.length+1) cp5);have HR6:Hid ((v5.setCell ⟨w.heap.size+1,2,none⟩ (SL g5 (acc.length+1) cp5)).heap[w.heap.size]?=some (.cells #[VI 0,VU 0,SN] 312 (0,0))):=aB HR5.out m6 (by omega);have HO6:Hid ((v5.setCell ⟨w.heap.size+1,2,none⟩ (SL g5 (acc.length+1) cp5)).ownsRow (w.heap.size+2) 142 3 (SL g5 (acc.length+1) cp5) (acc.length+1) (dc acc++dc [((k:Int),64*n'+8*ix,rv)])):=aG HO5.out m6 (by omega);have b6:=b5.setCell (p:=⟨w.heap.size+1,2,none⟩) (by show w.heap.size<=w.heap.size+1;omega) (SL g5 (acc.length+1) cp5);refine (vH rv _ hrb.1 hrb.2).mono ?_;rintro e w' ⟨rfl,rfl⟩;generalize v5.setCell ⟨w.heap.size+1,2,none⟩ (SL g5 (acc.length+1) cp5)=v6 at HS6 HR6 HO6 b6 |-;clear c0 c1 c2 e0 e1 e2 d0 d1 d2 f0 f1 f2 m6 HS5 HR5 HO5 b5;obtain ⟨⟨c0,c1,c2⟩,e0,e1,e2⟩:=aA HS6.out;have hpb:=rH rv;obtain ⟨pp,hpp⟩:∃pp,dI rv=pp:=⟨_,rfl⟩;have HP:Hid (dI rv=pp):=hpp;rw [hpp] at hpb |-;clear hpp;obtain ⟨k',rfl⟩:∃k',k=k'+1:=by
     cases k with
     | zero=>exact absurd HK.out (jx _)
     | succ k'=>exact ⟨k',rfl⟩
    go_wp2;go_roundw
    case rel=>
     refine ⟨k',pp,some (AD g5 0),cp5,acc++[(((k'+1:Nat):Int),64*n'+8*ix,rv)],by omega,rfl,hpb.1,hpb.2,by simp;omega,?_,?_,?_,?_,?_⟩
     ·rw [show (acc++[(((k'+1:Nat):Int),64*n'+8*ix,rv)]).length=acc.length+1 by simp,show ((k':Nat):Int)=((k'+1:Nat):Int)-1 by omega];exact ES HS6.out
     ·exact aB HR6.out (aq (aw v6 (some (w.heap.size+1))) 0 _) (by omega)
     ·rw [show (acc++[(((k'+1:Nat):Int),64*n'+8*ix,rv)]).length=acc.length+1 by simp,kR];exact aG HO6.out (aq (aw v6 (some (w.heap.size+1))) 0 _) (by omega)
     ·show _=_;rw [HX.out,sM zs va k' n' (by rw [hz,HI.out];exact HG.out) (by rw [HI.out,HV.out];exact HK.out),C5,HI.out,HV.out,HP.out]
     ·exact b6.setCell (p:=⟨w.heap.size+1,0,none⟩) (by show w.heap.size<=w.heap.size+1;omega) _
    case measure=>
     rw [HM.out,Ak,(aA (ES HS6.out)).1.1];simp [intOf]
   ·have HK:Hid (bH rv (k:Int)=2):=hkd;clear hkd;go_wp2_with fail;refine (pN rv k _ hrb.1 hrb.2).mono ?_;rintro e v3 ⟨rfl,rfl⟩;rw [HK.out];have n4:=(Below.refl v3.heap.size v3).alloc nle (Obj.cells #[VI k,VU (64*n'+8*ix),VU rv] 142);have HS4:=hid (ag HS1.out n4 hlt1);have HR4:=hid (ag HR1.out n4 (by omega));have HO4:=hid (aj HO1.out n4);have HW4:=hid ((OwnC.new 142 3 v3 (dc [((k:Int),64*n'+8*ix,rv)]) 1 (by rfl) (by decide)).row);have l4:v3.heap.size<(v3.alloc (Obj.cells #[VI k,VU (64*n'+8*ix),VU rv] 142)).heap.size:=by simp
    have b4:Bw w (v3.alloc (Obj.cells #[VI k,VU (64*n'+8*ix),VU rv] 142)):=hb1.alloc (by omega) _;go_wp2_with (at_builtin;refine mw _ rfl (.tmp 43) (.tmp 49) 136 rfl 142 Tryz.underlying136 (.agg #[VI 0,VU 0,VU 0]) 3 24 Tryz.infoRec rfl (by decide) (w.heap.size+2) acc.length _ (dc acc) rfl HO4.out v3.heap.size 0 1 1 (dc [((k:Int),64*n'+8*ix,rv)]) rfl (by omega) HW4.out (mQ _) (by omega) (by omega) (by omega) (w.heap.size+2) _ brf nle ?_;intro g5 cp5 v5 o5 n5;have HO5:Hid (v5.ownsRow (w.heap.size+2) 142 3 (SL g5 (acc.length+1) cp5) (acc.length+1) (dc acc++dc [((k:Int),64*n'+8*ix,rv)])):=o5;have HS5:Hid (v5.heap[w.heap.size+1]?=some (.cells #[VI k,VU 0,.slice ra acc.length rc] 312 (0,0))):=(n5.block _ (by omega)).trans HS4.out;have HR5:Hid (v5.heap[w.heap.size]?=some (.cells #[VI 0,VU 0,SN] 312 (0,0))):=(n5.block _ (by omega)).trans HR4.out;have b5:Bw w v5:=b4.trans (n5.mono (by omega));have l5:=n5.size;clear c0 c1 c2 e0 e1 e2 d0 d1 d2 f0 f1 f2 o5;obtain ⟨⟨c0,c1,c2⟩,e0,e1,e2⟩:=aA HS5.out;obtain ⟨⟨d0,d1,d2⟩,f0,f1,f2⟩:=aA HR5.out;clear n5 n4 HS4 HR4 HO4 HW4 b4 HS1 HR1 HO1);have hX:X=(1,(k:Int),rv,acc++[((k:Int),64*n'+8*ix,rv)]):=by
     rw [HX.out,sL zs va k n' (by rw [hz,HI.out];exact HG.out) (by rw [HI.out,HV.out];exact HK.out),HI.out,HV.out];rfl
    refine bodyPost_ret (v:=.tuple #[.agg #[VI k,VU rv,SL g5 (acc.length+1) cp5],.nilIface]) (by simp [results,Tryz.results203,go_sem,d0,d1,d2]) rfl ?_;rw [hX];refine ⟨⟨some (AD g5 0),cp5,?_,?_⟩,gQ ((b5.setCell (p:=⟨w.heap.size+1,2,none⟩) (by show w.heap.size<=w.heap.size+1;omega) _).setCell (p:=⟨w.heap.size+1,1,none⟩) (by show w.heap.size<=w.heap.size+1;omega) _) nle _ _ _⟩
    ·simp [cM]
    ·rw [show (acc++[((k:Int),64*n'+8*ix,rv)]).length=acc.length+1 by simp,kR];exact aJ (aG (aG HO5.out (aq (aq (aw v5 (some (w.heap.size+1))) 2 _) 1 _) (by omega)) (gb3 _ w.heap.size _ _ _) (by omega)) (by omega)
theorem te (va l:Int) (hl:l=0∨l=1∨l=2):0<=gx va l∧gx va l<=511:=by
 rcases hl with rfl | rfl | rfl <;> simp only [gx] <;> (try simp) <;> omega
theorem EB {t:TlbM} {p:Bool} {va asid l:Int} {q:Nat} {x:EntM} (hv:aR t p=true) (hx:t.es[q]?=some x) (hh:iB va asid l x=true):(q:Int)/t.ways=gx va l%t.sets:=by
 have hp:=kB hv q x hx;simp only [iB,mj,Bool.and_eq_true,beq_iff_eq] at hh;obtain ⟨h1,⟨h2,h3⟩,_⟩:=hh;simp only [cD,Bool.or_eq_true,Bool.and_eq_true,beq_iff_eq] at hp;rcases hp with hp | hp
 ·rw [h2] at hp;simp at hp
 ·rw [<-hp.2,h3,h1]
theorem yl {t:TlbM} {p:Bool} (hv:aR t p=true):(t.sets=1∨t.sets=2∨t.sets=4∨t.sets=8)∧1<=t.ways∧t.ways<=4∧(t.es.length:Int)=t.sets*t.ways:=fI hv
theorem vX {t:TlbM} {p:Bool} {va asid l:Int} {q f:Nat} {x:EntM} (hv:aR t p=true) (hx:t.es[q]?=some x) (hf:(f:Int)=gx va l%t.sets*t.ways) (hq:q<f∨(f:Int)+t.ways<=q):iB va asid l x=false:=by
 cases hh:iB va asid l x
 ·rfl
 ·exfalso;have h1:=EB hv hx hh;obtain ⟨_,w1,w4,_⟩:=yl hv;rw [<-h1] at hf;rcases (show t.ways=1∨t.ways=2∨t.ways=3∨t.ways=4 by omega) with hw | hw | hw | hw <;> rw [hw] at hf hq <;> omega
theorem BH {t:TlbM} {p:Bool} {va asid l:Int} {f:Nat} (hv:aR t p=true) (hf:(f:Int)=gx va l%t.sets*t.ways)
 (h:∀(j:Nat) x,(j:Int)<t.ways->t.es[f+j]?=some x->iB va asid l x=false):eo va asid l 0 t.es=none:=by
 refine oG va asid l t.es 0 (fun j x hx=>?_);by_cases h1:j<f
 ·exact vX hv hx hf (.inl h1)
 ·by_cases h2:(f:Int)+t.ways<=j
  ·exact vX hv hx hf (.inr h2)
  ·exact h (j-f) x (by omega) (by rw [show f+(j-f)=j by omega];exact hx)
theorem BI {t:TlbM} {p:Bool} {va asid l:Int} {f k:Nat} {x:EntM} (hv:aR t p=true) (hf:(f:Int)=gx va l%t.sets*t.ways) (hx:t.es[f+k]?=some x) (hh:iB va asid l x=true)
 (h:∀(j:Nat) y,j<k->t.es[f+j]?=some y->iB va asid l y=false):eo va asid l 0 t.es=some (f+k,x):=by
 have:=oH va asid l t.es 0 (f+k) x hx hh (fun j y hj hy=>by
  by_cases h1:j<f
  ·exact vX hv hy hf (.inl h1)
  ·exact h (j-f) y (by omega) (by rw [show f+(j-f)=j by omega];exact hy))
 rw [Nat.zero_add] at this;exact this
theorem uL (va asid l:Int):∀(es:List EntM) (i k:Nat) (x:EntM),eo va asid l i es=some (k,x)->∃j,k=i+j∧es[j]?=some x∧iB va asid l x=true
 | [],i,k,x,h=>by cases h
 | e::r,i,k,x,h=>by
  rw [eo] at h;split at h
  ·rename_i hh;cases h;exact ⟨0,rfl,rfl,hh⟩
  ·obtain ⟨j,rfl,h2,h3⟩:=uL va asid l r (i+1) k x h;exact ⟨j+1,by omega,by simpa using h2,h3⟩
theorem nj (t:TlbM) (va asid:Int) (h:(aY t va asid).1=true):∃(k:Nat) (x:EntM),t.es[k]?=some x∧(aY t va asid).2.1=(k:Int)∧(aY t va asid).2.2.1=x.level∧(aY t va asid).2.2.2=x.pte∧mj x va asid=true∧x.valid=true:=by
 have key:∀(l:Int) (k:Nat) (x:EntM),eo va asid l 0 t.es=some (k,x)->t.es[k]?=some x∧l=x.level∧mj x va asid=true∧x.valid=true:=by
  intro l k x hf;obtain ⟨j,rfl,h2,h3⟩:=uL va asid l t.es 0 k x hf;simp only [iB,Bool.and_eq_true,beq_iff_eq] at h3;have hv:x.valid=true:=by
   have:=h3.2;simp only [mj,Bool.and_eq_true] at this;exact this.1.1
  exact ⟨by rw [Nat.zero_add];exact h2,h3.1.symm,h3.2,hv⟩
 unfold aY at h |-;split at h
 ·cases h
 ·rename_i he;rw [if_neg he];cases h0:eo va asid 0 0 t.es with
  | some y=>
   obtain ⟨k,x⟩:=y;obtain ⟨a1,a2,a3,a4⟩:=key 0 k x h0;exact ⟨k,x,a1,by simp [iP],by simp [iP,<-a2],by simp [iP],a3,a4⟩
  | none=>
   cases h1:eo va asid 1 0 t.es with
   | some y=>
    obtain ⟨k,x⟩:=y;obtain ⟨a1,a2,a3,a4⟩:=key 1 k x h1;exact ⟨k,x,a1,by simp [iP],by simp [iP,<-a2],by simp [iP],a3,a4⟩
   | none=>
    cases h2:eo va asid 2 0 t.es with
    | some y=>
     obtain ⟨k,x⟩:=y;obtain ⟨a1,a2,a3,a4⟩:=key 2 k x h2;exact ⟨k,x,a1,by simp [iP],by simp [iP,<-a2],by simp [iP],a3,a4⟩
    | none=>
     rw [h0,h1,h2] at h;simp [iP] at h
theorem ym {t:TlbM} {va asid i l pt:Int} (h:aY t va asid=(false,i,l,pt)):(i,l,pt)=(0,0,0):=by
 unfold aY at h;split at h
 ·cases h;rfl
 ·cases h0:eo va asid 0 0 t.es with
  | some y=>simp [h0,iP] at h
  | none=>
   cases h1:eo va asid 1 0 t.es with
   | some y=>simp [h0,h1,iP] at h
   | none=>
    cases h2:eo va asid 2 0 t.es with
    | some y=>simp [h0,h1,h2,iP] at h
    | none=>
     simp [h0,h1,h2,iP] at h;obtain ⟨rfl,rfl,rfl⟩:=h;rfl
def su (r:Int × Int × Int × List ef) (k:Nat) (ps:List ef):Prop:=
 (∀p∈ps,bH p.2.2 p.1=1∧0<=p.1∧p.1<=k∧0<=p.2.2∧p.2.2<=18446744073709551615)∧
 ((r.1=1∧(∃ad,r.2.2.2=ps++[(r.2.1,ad,r.2.2.1)])∧bH r.2.2.1 r.2.1=2∧0<=r.2.1∧r.2.1<=k∧0<=r.2.2.1∧r.2.2.1<=18446744073709551615)∨((r.1=2∨r.1=3)∧r.2.2.2=ps∧r.2.2.1=0))
theorem zh (level:Int):bH 0 level≠2:=by
 unfold bH;split
 ·decide
 ·simp [bX];split <;> omega
theorem lZ (zs:List Int) (va:Int) (hz:∀i:Nat,0<=zs[i]?.getD 0∧zs[i]?.getD 0<=255):∀(k:Nat) (n:Int),∃ps,su (cQ zs va k n) k ps∧ps.length<=k
 | k,n=>by
  cases hg:dU zs.length (64*n+8*dF va k) 8
  ·rw [uE zs va k n hg];exact ⟨[],⟨by simp,.inr ⟨.inr rfl,rfl,rfl⟩⟩,by simp⟩
  ·have hb:=oL zs (64*n+8*dF va k) 8 (by omega) hz;rcases mR (rdV zs (64*n+8*dF va k) 8) (k:Int) with hk | hk | hk
   ·rw [uF zs va k n hg hk];exact ⟨[],⟨by simp,.inr ⟨.inl rfl,rfl,rfl⟩⟩,by simp⟩
   ·cases k with
    | zero=>exact absurd hk (jx _)
    | succ k'=>
     rw [sM zs va k' n hg hk];obtain ⟨ps,⟨h1,h2⟩,h3⟩:=lZ zs va hz k' (dI (rdV zs (64*n+8*dF va ((k'+1:Nat):Int)) 8));refine ⟨(((k'+1:Nat):Int),64*n+8*dF va ((k'+1:Nat):Int),rdV zs (64*n+8*dF va ((k'+1:Nat):Int)) 8)::ps,⟨?_,?_⟩,by simp;omega⟩
     ·intro p hp;rcases List.mem_cons.1 hp with rfl | hp
      ·exact ⟨hk,by simp only;omega,by simp only;omega,hb.1,hb.2⟩
      ·obtain ⟨q1,q2,q3,q4⟩:=h1 p hp;exact ⟨q1,q2,by omega,q4⟩
     ·simp only [tQ];rcases h2 with ⟨e1,⟨ad,e2⟩,e3,e4,e5,e6⟩ | ⟨e1,e2,e3⟩
      ·exact .inl ⟨e1,⟨ad,by rw [e2];rfl⟩,e3,e4,by omega,e6⟩
      ·exact .inr ⟨e1,by rw [e2];rfl,e3⟩
   ·rw [sL zs va k n hg hk];exact ⟨[],⟨by simp,.inl ⟨rfl,⟨_,rfl⟩,hk,by simp only;omega,Int.le_refl _,hb.1,hb.2⟩⟩,by simp⟩
theorem xA (zs:List Int) (root va:Int) (hz:∀i:Nat,0<=zs[i]?.getD 0∧zs[i]?.getD 0<=255):∃ps,su (dn zs root va) 2 ps∧ps.length<=2:=by
 unfold dn;split
 ·exact ⟨[],⟨by simp,.inr ⟨.inl rfl,rfl,rfl⟩⟩,by simp⟩
 ·exact lZ zs va hz 2 _
theorem zi {r:Int × Int × Int × List ef} {k k':Nat} {ps:List ef} (h:su r k ps) (hk:k<=k'):su r k' ps:=by
 obtain ⟨h1,h2⟩:=h;refine ⟨fun p hp=>?_,?_⟩
 ·obtain ⟨q1,q2,q3,q4⟩:=h1 p hp;exact ⟨q1,q2,by omega,q4⟩
 ·rcases h2 with ⟨e1,e2,e3,e4,e5,e6⟩ | h2
  ·exact .inl ⟨e1,e2,e3,e4,by omega,e6⟩
  ·exact .inr h2
theorem ot (zs:List Int) (satp va:Int) (t:TlbM) (asid:Int) (ht:aR t true=true) (hz:∀i:Nat,0<=zs[i]?.getD 0∧zs[i]?.getD 0<=255):∃ps,su (aW zs satp va (aY t va asid)) 2 ps∧ps.length<=2:=by
 unfold aW;split
 ·rename_i hf;obtain ⟨q,x,h1,h2,h3,h4,h5,h6⟩:=nj t va asid hf;have hl:=ew (ee ht) q x h1 h6;have hle:((aY t va asid).2.2.1-1).toNat<=2:=by rw [h3];omega
  obtain ⟨ps,a1,a2⟩:=lZ zs va hz ((aY t va asid).2.2.1-1).toNat (dI (aY t va asid).2.2.2);exact ⟨ps,zi a1 hle,by omega⟩
 ·exact xA zs satp va hz
theorem jN (va satp pick:Int):∀(a b:List ef) (p:TlbM),cG va satp pick (a++b) p=cG va satp pick b (cG va satp pick a p)
 | [],b,p=>rfl
 | r::a,b,p=>by
  rw [List.cons_append,cG,cG];exact jN va satp pick a b _
theorem fx (t:TlbM) (e:EntM) (pick:Int):(dg t e pick).es.length=t.es.length∧(dg t e pick).sets=t.sets∧(dg t e pick).ways=t.ways:=by
 unfold dg;split
 ·simp
 ·exact ⟨rfl,rfl,rfl⟩
theorem ma (va satp pick:Int):∀(rs:List ef) (p:TlbM),(cG va satp pick rs p).es.length=p.es.length∧(cG va satp pick rs p).sets=p.sets∧(cG va satp pick rs p).ways=p.ways
 | [],p=>⟨rfl,rfl,rfl⟩
 | r::rs,p=>by
  rw [cG];have ih:=ma va satp pick rs (if bH r.2.2 r.1=1 then dg p (eU r.1 va satp r.2.2) pick else p);split at ih
  ·rename_i hk;rw [if_pos hk];have h:=fx p (eU r.1 va satp r.2.2) pick;exact ⟨ih.1.trans h.1,ih.2.1.trans h.2.1,ih.2.2.trans h.2.2⟩
  ·rename_i hk;rw [if_neg hk];exact ih
theorem zj {r:Int × Int × Int × List ef} {k:Nat} {ps:List ef} (va satp pick:Int) (p:TlbM) (h:su r k ps):cG va satp pick r.2.2.2 p=cG va satp pick ps p:=by
 rcases h.2 with ⟨_,⟨ad,e⟩,hk,_⟩ | ⟨_,e,_⟩
 ·rw [e,jN];rw [cG,cG,if_neg (by simp only;omega)]
 ·rw [e]
theorem wn (t:TlbM) (va asid:Int) (he:∀e∈t.es,fq e) (h:(aY t va asid).1=true):(0<=(aY t va asid).2.2.2∧(aY t va asid).2.2.2<=18446744073709551615)∧(-9223372036854775808<=(aY t va asid).2.2.1∧(aY t va asid).2.2.1<=9223372036854775807):=by
 obtain ⟨k,x,hx,_,hl,hp,_⟩:=nj t va asid h;have hk:=he x (List.mem_of_getElem? hx);rw [hl,hp];exact ⟨hk.2.2.2,hk.1⟩
theorem uH (zs:List Int) (root va:Int):(dn zs root va).2.2.2.length<=3:=by
 unfold dn;split
 ·simp
 ·exact mZ zs va 2 _
structure WalkLim (r:Int × Int × Int × List ef):Prop where
 len:r.2.2.2.length<=3
 pte:0<=r.2.2.1∧r.2.2.1<=18446744073709551615
 level:0<=r.2.1∧r.2.1<=2
 recs:∀x∈r.2.2.2,(0<=x.1∧x.1<=2)∧0<=x.2.2∧x.2.2<=18446744073709551615
theorem sT {r:Int × Int × Int × List ef} {ps:List ef} (h:su r 2 ps):∀x∈r.2.2.2,(0<=x.1∧x.1<=2)∧0<=x.2.2∧x.2.2<=18446744073709551615:=by
 obtain ⟨h1,h2⟩:=h;intro x hx;rcases h2 with ⟨_,⟨ad,e⟩,_,e4,e5,e6,e7⟩ | ⟨_,e,_⟩
 ·rw [e] at hx;rcases List.mem_append.1 hx with hx | hx
  ·obtain ⟨_,q2,q3,q4,q5⟩:=h1 x hx;exact ⟨⟨q2,by omega⟩,q4,q5⟩
  ·have:x=(r.2.1,ad,r.2.2.1):=by simpa using hx
   subst this;exact ⟨⟨e4,by omega⟩,e6,e7⟩
 ·rw [e] at hx;obtain ⟨_,q2,q3,q4,q5⟩:=h1 x hx;exact ⟨⟨q2,by omega⟩,q4,q5⟩
theorem pP (zs:List Int) (satp va:Int) (t:TlbM) (asid:Int) (ht:aR t true=true) (he:∀e∈t.es,fq e) (hz:∀i:Nat,0<=zs[i]?.getD 0∧zs[i]?.getD 0<=255):
 ((aY t va asid).1=true->∃l:Nat,(aY t va asid).2.2.1=(l:Int)+1∧l<=1∧0<=(aY t va asid).2.2.2∧(aY t va asid).2.2.2<=18446744073709551615∧aW zs satp va (aY t va asid)=cQ zs va l (dI (aY t va asid).2.2.2))∧
 ((aY t va asid).1=false->aW zs satp va (aY t va asid)=dn zs satp va)∧WalkLim (aW zs satp va (aY t va asid)):=by
 obtain ⟨ps,hs,_⟩:=ot zs satp va t asid ht hz;cases hf:(aY t va asid).1
 ·have e:aW zs satp va (aY t va asid)=dn zs satp va:=by rw [aW,if_neg (by rw [hf];simp)]
  have hb:=sP zs satp va hz;refine ⟨fun h=>(by cases h),fun _=>e,?_⟩;have hr:=sT hs;rw [e] at hr |-;exact ⟨uH zs satp va,⟨hb.1,hb.2.1⟩,hb.2.2,hr⟩
 ·obtain ⟨q,x,h1,h2,h3,h4,h5,h6⟩:=nj t va asid hf;have hl:=ew (ee ht) q x h1 h6;have hpl:=kB ht q x h1;have hlim:=(wn t va asid he hf).1;have hk1:x.level≠0:=by
   intro h0;have hg:aZ x true=true:=by
    simp only [cD,Bool.or_eq_true,Bool.and_eq_true] at hpl;have h7:aZ x true=true∧x.tag%t.sets=q/t.ways:=by simpa [h6] using hpl
    exact h7.1
   have:=BJ hg;rw [h0] at this;exact jx _ this
  have e:aW zs satp va (aY t va asid)=cQ zs va ((aY t va asid).2.2.1-1).toNat (dI (aY t va asid).2.2.2):=by rw [aW,if_pos hf]
  have hb:=sO zs va hz ((aY t va asid).2.2.1-1).toNat (dI (aY t va asid).2.2.2) (by rw [h3];omega);refine ⟨fun _=>⟨((aY t va asid).2.2.1-1).toNat,by rw [h3];omega,by rw [h3];omega,hlim.1,hlim.2,e⟩,fun h=>(by cases h),?_⟩;have hr:=sT hs;have hln:=mZ zs va ((aY t va asid).2.2.1-1).toNat (dI (aY t va asid).2.2.2);rw [e] at hr |-;exact ⟨by rw [h3] at hln |-;omega,⟨hb.1,hb.2.1⟩,hb.2.2,hr⟩
end Go.Proofs.YtkenjknmfhoppaaGreat
