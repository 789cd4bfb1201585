import Derived.Test.YtkenjknmfhoppaaGreatPk06
namespace Go.Proofs.YtkenjknmfhoppaaGreat
open Go.RowKit
set_option linter.unusedVariables false
set_option maxHeartbeats 6400000
set_option maxRecDepth 20000
def fU (x kind:Int) (mxr:Bool):Bool:=if kind=0 then bU x 8 else if kind=1 then bU x 2 || (mxr && bU x 8) else if kind=2 then bU x 4 else false
theorem kx (x kind:Int) (mxr:Bool) (w:World) (h0:0<=x) (h1:x<=18446744073709551615):
 Calls Tryz.prog 206 #[VU x,VI kind,.bool mxr] w fun e w'=>e=.returned (.bool (fU x kind mxr))∧w'=w:=by
 have HR:=hid (dS 1 x 2 rfl (by omega) h0 h1);have HW:=hid (dS 2 x 4 rfl (by omega) h0 h1);have HX:=hid (dS 3 x 8 rfl (by omega) h0 h1);by_cases k0:kind=0
 ·subst k0;go_enter Tryz.func206,Tryz.ntmps206;go_wp2_with (go_at_call 164;refine (dL x _ _).mono ?_;rintro e w' ⟨rfl,rfl⟩;rw [HX.out]);go_ret;exact ⟨rfl,rfl⟩
 have k0':(kind == 0)=false:=by simpa using k0
 by_cases k1:kind=1
 ·subst k1;cases hr:bU x 2 <;> cases mxr;all_goals
   go_enter Tryz.func206,Tryz.ntmps206;go_wp2_with (go_at_call 164;refine (dL x _ _).mono ?_;rintro e w' ⟨rfl,rfl⟩;first | rw [HR.out,hr] | rw [HX.out]);go_ret;exact ⟨aL (by simp [fU,hr]),rfl⟩
 have k1':(kind == 1)=false:=by simpa using k1
 by_cases k2:kind=2
 ·subst k2;go_enter Tryz.func206,Tryz.ntmps206;go_wp2_with (go_at_call 164;refine (dL x _ _).mono ?_;rintro e w' ⟨rfl,rfl⟩;rw [HW.out]);go_ret;exact ⟨rfl,rfl⟩
 have k2':(kind == 2)=false:=by simpa using k2
 have HE:Hid (fU x kind mxr=false):=by show _=_;rw [fU,if_neg k0,if_neg k1,if_neg k2]
 clear k0 k1 k2;go_enter Tryz.func206,Tryz.ntmps206;go_wp2;go_ret;exact ⟨aL HE.out.symm,rfl⟩
def fV (x kind mode:Int) (sum:Bool):Bool:=if mode=0 then bU x 16 else if mode=1 then !bU x 16 || (sum && kind != 0) else false
theorem oS (x kind mode:Int) (sum:Bool) (w:World) (h0:0<=x) (h1:x<=18446744073709551615):
 Calls Tryz.prog 207 #[VU x,VI kind,VI mode,.bool sum] w fun e w'=>e=.returned (.bool (fV x kind mode sum))∧w'=w:=by
 have HU:=hid (dS 4 x 16 rfl (by omega) h0 h1);by_cases k0:mode=0
 ·subst k0;go_enter Tryz.func207,Tryz.ntmps207;go_wp2_with (go_at_call 164;refine (dL x _ _).mono ?_;rintro e w' ⟨rfl,rfl⟩;rw [HU.out]);go_ret;exact ⟨rfl,rfl⟩
 have k0':(mode == 0)=false:=by simpa using k0
 by_cases k1:mode=1
 ·subst k1;cases hu:bU x 16 <;> cases sum;all_goals
   go_enter Tryz.func207,Tryz.ntmps207;go_wp2_with (go_at_call 164;refine (dL x _ _).mono ?_;rintro e w' ⟨rfl,rfl⟩;rw [HU.out,hu]);all_goals
    go_ret;exact ⟨aL (by simp_all [fV]),rfl⟩
 have k1':(mode == 1)=false:=by simpa using k1
 have HE:Hid (fV x kind mode sum=false):=by show _=_;rw [fV,if_neg k0,if_neg k1]
 clear k0 k1;go_enter Tryz.func207,Tryz.ntmps207;go_wp2;go_ret;exact ⟨aL HE.out.symm,rfl⟩
def lT (x kind:Int):Bool:=bU x 64 && (kind != 2 || bU x 128)
theorem DY (x kind:Int) (w:World) (h0:0<=x) (h1:x<=18446744073709551615):
 Calls Tryz.prog 208 #[VU x,VI kind] w fun e w'=>e=.returned (.bool (lT x kind))∧w'=w:=by
 have HA:=hid (dS 6 x 64 rfl (by omega) h0 h1);have HD:=hid (dS 7 x 128 rfl (by omega) h0 h1);cases ha:bU x 64
 ·go_enter Tryz.func208,Tryz.ntmps208;go_wp2_with (go_at_call 164;refine (dL x _ _).mono ?_;rintro e w' ⟨rfl,rfl⟩;rw [HA.out,ha]);go_ret;exact ⟨aL (by simp [lT,ha]),rfl⟩
 ·cases hk:(kind != 2)
  ·go_enter Tryz.func208,Tryz.ntmps208;go_wp2_with (go_at_call 164;refine (dL x _ _).mono ?_;rintro e w' ⟨rfl,rfl⟩;first | rw [HA.out,ha] | rw [HD.out]);go_ret;exact ⟨aL (by simp [lT,ha,hk]),rfl⟩
  ·go_enter Tryz.func208,Tryz.ntmps208;go_wp2_with (go_at_call 164;refine (dL x _ _).mono ?_;rintro e w' ⟨rfl,rfl⟩;first | rw [HA.out,ha] | rw [HD.out]);go_ret;exact ⟨aL (by simp [lT,ha,hk]),rfl⟩
theorem rL (x kind mode:Int) (sum mxr:Bool):cQ x kind mode sum mxr=(fU x kind mxr && fV x kind mode sum && lT x kind):=by
 simp only [cQ,fU,fV,lT];by_cases k0:kind=0
 ·subst k0;simp only [if_pos];cases bU x 8 <;> cases bU x 64 <;> simp <;> split <;> simp
 by_cases k1:kind=1
 ·subst k1;simp only [if_neg k0,if_pos];by_cases m0:mode=0
  ·subst m0;simp
  by_cases m1:mode=1
  ·subst m1;simp
  ·simp [m0,m1]
 by_cases k2:kind=2
 ·subst k2;by_cases m0:mode=0
  ·subst m0;simp;cases bU x 64 <;> cases bU x 128 <;> cases bU x 4 <;> simp
  by_cases m1:mode=1
  ·subst m1;simp;cases bU x 64 <;> cases bU x 128 <;> cases bU x 4 <;> cases bU x 16 <;> cases sum <;> simp
  ·simp [m0,m1]
 ·simp [k0,k1,k2]
theorem jS (x kind mode:Int) (sum mxr:Bool) (w:World) (h0:0<=x) (h1:x<=18446744073709551615):
 Calls Tryz.prog 200 #[VU x,VI kind,VI mode,.bool sum,.bool mxr] w fun e w'=>e=.returned (.bool (cQ x kind mode sum mxr))∧w'=w:=by
 rw [rL];cases hk:fU x kind mxr
 ·go_enter Tryz.func200,Tryz.ntmps200;go_wp2_with (first
   | (go_at_call 206;refine (kx x kind mxr _ h0 h1).mono ?_;rintro e w' ⟨rfl,rfl⟩;rw [hk]))
  go_ret;exact ⟨aL (by simp),rfl⟩
 cases hm:fV x kind mode sum
 ·go_enter Tryz.func200,Tryz.ntmps200;go_wp2_with (first
   | (go_at_call 206;refine (kx x kind mxr _ h0 h1).mono ?_;rintro e w' ⟨rfl,rfl⟩;rw [hk])
   | (go_at_call 207;refine (oS x kind mode sum _ h0 h1).mono ?_;rintro e w' ⟨rfl,rfl⟩;rw [hm]))
  go_ret;exact ⟨aL (by simp),rfl⟩
 ·go_enter Tryz.func200,Tryz.ntmps200;go_wp2_with (first
   | (go_at_call 206;refine (kx x kind mxr _ h0 h1).mono ?_;rintro e w' ⟨rfl,rfl⟩;rw [hk])
   | (go_at_call 207;refine (oS x kind mode sum _ h0 h1).mono ?_;rintro e w' ⟨rfl,rfl⟩;rw [hm])
   | (go_at_call 208;refine (DY x kind _ h0 h1).mono ?_;rintro e w' ⟨rfl,rfl⟩))
  go_ret;exact ⟨aL (by simp),rfl⟩
theorem lU (level m:Int) (w:World) (h:(level=0∧m=63)∨(level=1∧m=511)∨(level=2∧m=4095)):
 Calls Tryz.prog 218 #[VI level] w fun e w'=>e=.returned (VU m)∧w'=w:=by
 rcases h with ⟨rfl,rfl⟩ | ⟨rfl,rfl⟩ | ⟨rfl,rfl⟩
 ·go_enter Tryz.func218,Tryz.ntmps218;go_wp2_with (go_at_call 118;refine (dI 6 63 _ (by omega)).mono ?_;rintro e w' ⟨rfl,rfl⟩);go_ret;exact ⟨rfl,rfl⟩
 ·go_enter Tryz.func218,Tryz.ntmps218;go_wp2_with (go_at_call 118;refine (dI 9 511 _ (by omega)).mono ?_;rintro e w' ⟨rfl,rfl⟩);go_ret;exact ⟨rfl,rfl⟩
 ·go_enter Tryz.func218,Tryz.ntmps218;go_wp2_with (go_at_call 118;refine (dI 12 4095 _ (by omega)).mono ?_;rintro e w' ⟨rfl,rfl⟩);go_ret;exact ⟨rfl,rfl⟩
theorem Hu (x level va:Int) (w:World) (h0:0<=x) (h1:x<=18446744073709551615) (hl:level=0∨level=1∨level=2) (hv0:0<=va) (hv1:va<=18446744073709551615):
 Calls Tryz.prog 214 #[VU x,VI level,VU va] w fun e w'=>e=.returned (VU (fT x level va))∧w'=w:=by
 have hpp:0<=dK x∧dK x<17592186044416:=⟨Int.emod_nonneg _ (by omega),Int.emod_lt_of_pos _ (by omega)⟩;have HP:∀w,Hid (Calls Tryz.prog 212 #[VU x] w fun e w'=>e=.returned (VU (dK x))∧w'=w):=fun w=>wH x w h0 h1;have HE:Hid (fT x level va=dK x*64/iq level*iq level+va%iq level):=by
  show _=_;rw [fT,if_neg (by omega)]
 rw [HE.out];clear HE;generalize dK x=p at *;rcases hl with rfl | rfl | rfl
 ·have H:Hid (bits .or .u64 (bits .andNot .u64 (p*64) 63) (bits .and .u64 va 63)=p*64/iq 0*iq 0+va%iq 0):=
   py 6 (p*64) va 63 64 rfl rfl (by omega) (by omega) (by omega) hv0 hv1
  go_enter Tryz.func214,Tryz.ntmps214;go_wp2_with (first
   | (go_at_call 212;refine ((HP _).out).mono ?_;rintro e w' ⟨rfl,rfl⟩)
   | (go_at_call 218;refine (lU 0 63 _ (by omega)).mono ?_;rintro e w' ⟨rfl,rfl⟩))
  go_ret;exact ⟨dY H.out,rfl⟩
 ·have H:Hid (bits .or .u64 (bits .andNot .u64 (p*64) 511) (bits .and .u64 va 511)=p*64/iq 1*iq 1+va%iq 1):=
   py 9 (p*64) va 511 512 rfl rfl (by omega) (by omega) (by omega) hv0 hv1
  go_enter Tryz.func214,Tryz.ntmps214;go_wp2_with (first
   | (go_at_call 212;refine ((HP _).out).mono ?_;rintro e w' ⟨rfl,rfl⟩)
   | (go_at_call 218;refine (lU 1 511 _ (by omega)).mono ?_;rintro e w' ⟨rfl,rfl⟩))
  go_ret;exact ⟨dY H.out,rfl⟩
 ·have H:Hid (bits .or .u64 (bits .andNot .u64 (p*64) 4095) (bits .and .u64 va 4095)=p*64/iq 2*iq 2+va%iq 2):=
   py 12 (p*64) va 4095 4096 rfl rfl (by omega) (by omega) (by omega) hv0 hv1
  go_enter Tryz.func214,Tryz.ntmps214;go_wp2_with (first
   | (go_at_call 212;refine ((HP _).out).mono ?_;rintro e w' ⟨rfl,rfl⟩)
   | (go_at_call 218;refine (lU 2 4095 _ (by omega)).mono ?_;rintro e w' ⟨rfl,rfl⟩))
  go_ret;exact ⟨dY H.out,rfl⟩
theorem FU (va level:Int) (w:World) (hv0:0<=va) (hv1:va<=18446744073709551615) (hl:level=0∨level=1∨level=2):
 Calls Tryz.prog 215 #[VU va,VI level] w fun e w'=>e=.returned (VU (dq va level))∧∃n,w'=w.drewN n:=by
 rcases hl with rfl | rfl | rfl
 ·have H:=hid (eX 3 (va/64) 7 rfl (by omega) (by omega) (by omega));go_enter Tryz.func215,Tryz.ntmps215;go_wp2;go_quiet ((go_at_call 118;exact Calls.quiet_of_same (dI 3 7 _ (by omega))));go_wp2;go_ret;exact ⟨dY H.out,nq,rfl⟩
 ·have H:=hid (eX 3 (va/512) 7 rfl (by omega) (by omega) (by omega));go_enter Tryz.func215,Tryz.ntmps215;go_wp2;go_quiet ((go_at_call 118;exact Calls.quiet_of_same (dI 3 7 _ (by omega))));go_wp2;go_ret;exact ⟨dY H.out,nq,rfl⟩
 ·have H:=hid (eX 3 (va/4096) 7 rfl (by omega) (by omega) (by omega));go_enter Tryz.func215,Tryz.ntmps215;go_wp2;go_quiet ((go_at_call 118;exact Calls.quiet_of_same (dI 3 7 _ (by omega))));go_wp2;go_ret;exact ⟨dY H.out,nq,rfl⟩
theorem xn (n level va:Int) (w:World) (hv0:0<=va) (hv1:va<=18446744073709551615) (hl:level=0∨level=1∨level=2) (hn0:0<=n) (hn1:n<17592186044416):
 Calls Tryz.prog 210 #[VU n,VI level,VU va] w fun e w'=>e=.returned (VU (64*n+8*dq va level))∧∃q,w'=w.drewN q:=by
 obtain ⟨ix,hix⟩:∃ix,dq va level=ix:=⟨_,rfl⟩;have hib:=rV va level;have HI:=hid hix;have HE:Hid (n*64+ix*8=64*n+8*ix):=show _=_ by omega
 rw [hix] at hib |-;clear hix;go_enter Tryz.func210,Tryz.ntmps210;go_wp2_with fail;refine (FU va level w hv0 hv1 hl).mono ?_;rintro e w' ⟨rfl,nq,rfl⟩;rw [HI.out];go_wp2;go_ret;exact ⟨dY HE.out,nq,rfl⟩
theorem zM (a:Option Addr) (len cap:Nat) (addr:Int) (w:World) (hl:len<=1048576) (h0:0<=addr) (h1:addr<=18446744073709551615) (hg:dZ len addr 8=false):
 Calls Tryz.prog 221 #[.slice a len cap,VU addr] w fun e w'=>e=.returned (.tuple #[VU 0,.bool false])∧w'=w:=by
 have HG:=hid hg;clear hg;go_enter Tryz.func221,Tryz.ntmps221;go_wp2_with (go_at_call 222;refine (uJ _ _ _ _ _ _ hl h0 h1 (by omega)).mono ?_;rintro e w' ⟨rfl,rfl⟩;rw [HG.out]);exact bodyPost_ret (v:=.tuple #[VU 0,.bool false]) (by simp [results,Tryz.results221,go_sem]) rfl ⟨rfl,rfl⟩
theorem Bd (a:Option Addr) (len cap:Nat) (zs:List Int) (addr:Int) (w:World) (h:Byt w a len zs) (hl:len<=1048576) (h0:0<=addr) (h1:addr<=18446744073709551615) (hg:dZ len addr 8=true):
 Calls Tryz.prog 221 #[.slice a len cap,VU addr] w fun e w'=>e=.returned (.tuple #[VU (rdV zs addr 8),.bool true])∧w'=w:=by
 have hz:=h.1;have hv:rdV zs addr 8=num ((zs.drop addr.toNat).take 8):=by simp [rdV,hz,hg]
 rw [hv];have hg':=hg;simp only [dZ,decide_eq_true_eq] at hg';obtain ⟨hn,hn1,hn2⟩:=hg';obtain ⟨k,rfl⟩:=Int.eq_ofNat_of_zero_le h0;obtain ⟨b,off,rfl⟩:∃b off,a=some (AD b off):=by
  rcases h.2.2 with hy | ⟨b,off,rfl,hb,hcl⟩
  ·omega
  ·exact ⟨b,off,rfl⟩
 have HG:=hid hg;have HC:=Cel.of_byt h;clear hg hv h;rw [Int.toNat_natCast];go_enter Tryz.func221,Tryz.ntmps221;go_wp2_with (first
  | (go_at_call 222;refine (uJ _ _ _ _ _ _ hl h0 h1 (by omega)).mono ?_;rintro e w' ⟨rfl,rfl⟩;rw [HG.out])
  | (go_at_call 223;refine (Ki b off len cap k zs _ HC (by omega) hl).mono ?_;rintro e w' ⟨rfl,rfl⟩))
 exact bodyPost_ret (v:=.tuple #[VU (num ((zs.drop k).take 8)),.bool true]) (by simp [results,Tryz.results221,go_sem]) rfl ⟨rfl,rfl⟩
theorem Jg (w:World):(Instr.typeAssert (.iface 288 (.agg #[])) 281 288 true).run Tryz.prog w=.ok (.tuple #[.agg #[],.bool true]) w:=by kernel_rfl
theorem Jh (w:World):(Instr.typeAssert (.iface 289 (.agg #[])) 281 288 true).run Tryz.prog w=.ok (.tuple #[.agg #[],.bool false]) w:=by kernel_rfl
theorem Ji (w:World):(Instr.typeAssert (.iface 289 (.agg #[])) 281 289 true).run Tryz.prog w=.ok (.tuple #[.agg #[],.bool true]) w:=by kernel_rfl
theorem Jj (w:World):(Instr.typeAssert .nilIface 281 288 true).run Tryz.prog w=.ok (.tuple #[.agg #[],.bool false]) w:=by kernel_rfl
theorem Jk (w:World):(Instr.typeAssert .nilIface 281 289 true).run Tryz.prog w=.ok (.tuple #[.agg #[],.bool false]) w:=by kernel_rfl
def cK (code:Int):Value:=if code=1 then .nilIface else if code=2 then .iface 288 (.agg #[]) else .iface 289 (.agg #[])
theorem wN (kind:Int) (w:World):Calls Tryz.prog 171 #[VI kind] w fun e w'=>e=.returned (VI (fk kind))∧w'=w:=by
 by_cases k0:kind=0
 ·subst k0;go_enter Tryz.func171,Tryz.ntmps171;go_wp2;go_ret;exact ⟨rfl,rfl⟩
 have k0':(kind == 0)=false:=by simpa using k0
 by_cases k1:kind=1
 ·subst k1;go_enter Tryz.func171,Tryz.ntmps171;go_wp2;go_ret;exact ⟨rfl,rfl⟩
 have k1':(kind == 1)=false:=by simpa using k1
 have HE:Hid (fk kind=15):=by show _=_;rw [fk,if_neg k0,if_neg k1]
 clear k0 k1;go_enter Tryz.func171,Tryz.ntmps171;go_wp2;go_ret;exact ⟨cL HE.out.symm,rfl⟩
theorem mD (kind:Int) (w:World):Calls Tryz.prog 165 #[VI kind] w fun e w'=>e=.returned (VI (bY kind))∧w'=w:=by
 by_cases k0:kind=0
 ·subst k0;go_enter Tryz.func165,Tryz.ntmps165;go_wp2;go_ret;exact ⟨rfl,rfl⟩
 have k0':(kind == 0)=false:=by simpa using k0
 by_cases k1:kind=1
 ·subst k1;go_enter Tryz.func165,Tryz.ntmps165;go_wp2;go_ret;exact ⟨rfl,rfl⟩
 have k1':(kind == 1)=false:=by simpa using k1
 have HE:Hid (bY kind=7):=by show _=_;rw [bY,if_neg k0,if_neg k1]
 clear k0 k1;go_enter Tryz.func165,Tryz.ntmps165;go_wp2;go_ret;exact ⟨cL HE.out.symm,rfl⟩
theorem tr (c kind:Int) (w:World) (hc:c=1∨c=2∨c=3):
 Calls Tryz.prog 167 #[cK c,VI kind] w fun e w'=>e=.returned (VI (if c=1 then 0 else if c=2 then fk kind else bY kind))∧w'=w:=by
 have t1:=Jg;have t2:=Jh;have t3:=Ji;have t4:=Jj;have t5:=Jk;rcases hc with rfl | rfl | rfl;all_goals
  simp only [cK,if_pos,Int.reduceEq];go_enter Tryz.func167,Tryz.ntmps167;go_wp2_with (first
   | (go_at_call 171;refine (wN kind _).mono ?_;rintro e w' ⟨rfl,rfl⟩)
   | (go_at_call 165;refine (mD kind _).mono ?_;rintro e w' ⟨rfl,rfl⟩))
  go_ret;exact ⟨rfl,rfl⟩
def uv (acc:List aQ) (r:Int × Int × Int × List aQ):Int × Int × Int × List aQ:=(r.1,r.2.1,r.2.2.1,acc++r.2.2.2)
theorem uZ (zs:List Int) (va:Int) (k:Nat) (n:Int) (h:dZ zs.length (64*n+8*dq va k) 8=false):bD zs va k n=(3,(k:Int),0,[]):=by
 unfold bD;rw [if_pos h]
theorem vd (zs:List Int) (va:Int) (k:Nat) (n:Int) (h:dZ zs.length (64*n+8*dq va k) 8=true) (hk:aW (rdV zs (64*n+8*dq va k) 8) k=0):bD zs va k n=(2,(k:Int),0,[]):=by
 unfold bD;rw [if_neg (by rw [h];simp),if_pos hk]
theorem ts (zs:List Int) (va:Int) (k:Nat) (n:Int) (h:dZ zs.length (64*n+8*dq va k) 8=true) (hk:aW (rdV zs (64*n+8*dq va k) 8) k=2):bD zs va k n=(1,(k:Int),rdV zs (64*n+8*dq va k) 8,[((k:Int),64*n+8*dq va k,rdV zs (64*n+8*dq va k) 8)]):=by
 unfold bD;rw [if_neg (by rw [h];simp),if_neg (by rw [hk];decide),if_pos hk]
theorem tu (zs:List Int) (va:Int) (k:Nat) (n:Int) (h:dZ zs.length (64*n+8*dq va ((k+1:Nat):Int)) 8=true) (hk:aW (rdV zs (64*n+8*dq va ((k+1:Nat):Int)) 8) ((k+1:Nat):Int)=1):
 bD zs va (k+1) n=uv [(((k+1:Nat):Int),64*n+8*dq va ((k+1:Nat):Int),rdV zs (64*n+8*dq va ((k+1:Nat):Int)) 8)] (bD zs va k (dK (rdV zs (64*n+8*dq va ((k+1:Nat):Int)) 8))):=by
 rw [bD,if_neg (by rw [h];simp),if_neg (by rw [hk];decide),if_neg (by rw [hk];decide)];rfl
theorem Fi (a b:List aQ) (r:Int × Int × Int × List aQ):uv a (uv b r)=uv (a++b) r:=by
 simp [uv]
def AJ (base:Nat) (w':World) (e:Ending) (r:Int × Int × Int × List aQ):Prop:=
 ∃ra rc,e=.returned (.tuple #[.agg #[VI r.2.1,VU r.2.2.1,.slice ra r.2.2.2.length rc],cK r.1])∧w'.ownsRow base 142 3 (.slice ra r.2.2.2.length rc) r.2.2.2.length (cG r.2.2.2)
def BQ (w:World) (p:Nat):Nat:=match w.cell? (AD p 0) with
 | some v=>(intOf v).toNat
 | none=>0
def SrcAt (w:World) (sv:Value) (zs:List Int):Prop:=
 ∃d x a len cap,sv=.iface d x∧(∀u,Bw w u->(method 444 d x "loop.example/s0051/impl.entryAt").run Tryz.prog u=.ok (221,.slice a len cap) u)∧Byt w a len zs∧len<=1048576
theorem SrcAt.keep {w w':World} {sv:Value} {zs:List Int} (h:SrcAt w sv zs) (hb:Bw w w'):SrcAt w' sv zs:=by
 obtain ⟨d,x,a,len,cap,rfl,hm,hB,hl⟩:=h;exact ⟨d,x,a,len,cap,rfl,fun u hu=>hm u (bst hb hu),hB.keep hb,hl⟩
theorem SrcAt.bd {w:World} {sv:Value} {zs:List Int} (h:SrcAt w sv zs):∀i:Nat,0<=zs[i]?.getD 0∧zs[i]?.getD 0<=255:=by
 obtain ⟨d,x,a,len,cap,rfl,hm,hB,hl⟩:=h;exact hB.2.1
theorem jw:∀a b:List aQ,cG (a++b)=cG a++cG b
 | [],b=>rfl
 | r::a,b=>by simp [cG,jw a b]
theorem qa (sv:Value) (zs:List Int) (va n:Int) (l:Nat) (w:World) (hB:SrcAt w sv zs) (hl:l<=2) (hv0:0<=va) (hv1:va<=18446744073709551615) (hn0:0<=n) (hn1:n<17592186044416):
 Calls Tryz.prog 203 #[sv,VU n,VI l,VU va] w fun e w'=>AJ w.heap.size w' e (bD zs va l n)∧Bw w w':=by
 obtain ⟨dT,xS,a,len,cap,rfl,hm,hB,hlen⟩:=hB;have hz:=hB.1;have hzb:=hB.2.1;have HB:=hid hB;have HMt:Hid _:=hm;obtain ⟨X,hX⟩:∃X,bD zs va l n=X:=⟨_,rfl⟩;have HX:Hid (X=uv [] (bD zs va l n)):=by show _=_;rw [<-hX];rfl
 rw [hX];clear hX hB hm;have s0:Hid (((w.alloc (Obj.cells #[VI 0,VU 0,SN] 312)).alloc (Obj.cells #[VI l,VU 0,SN] 312)).heap[w.heap.size+1]?=some (.cells #[VI l,VU 0,SN] 312 (0,0))):=by
  have:=fE (w.alloc (Obj.cells #[VI 0,VU 0,SN] 312)) (Obj.cells #[VI l,VU 0,SN] 312);simp only [World.size_alloc] at this;exact this
 have r0:Hid (((w.alloc (Obj.cells #[VI 0,VU 0,SN] 312)).alloc (Obj.cells #[VI l,VU 0,SN] 312)).heap[w.heap.size]?=some (.cells #[VI 0,VU 0,SN] 312 (0,0))):=by
  show _=_;rw [zF _ _ (by simp)];exact fE w _
 have b0:Bw w ((w.alloc (Obj.cells #[VI 0,VU 0,SN] 312)).alloc (Obj.cells #[VI l,VU 0,SN] 312)):=((Below.refl w.heap.size w).alloc nle _).alloc (by simp) _;go_enter Tryz.func203,Tryz.ntmps203;go_wp2;go_loopw [1] (fun tt wr=>∃(k:Nat) (n':Int) (ra:Option Addr) (rc:Nat) (acc:List aQ),k<=l∧tt=VU n'∧0<=n'∧n'<17592186044416∧acc.length+k<=2∧wr.heap[w.heap.size+1]?=some (.cells #[VI k,VU 0,.slice ra acc.length rc] 312 (0,0))∧
  wr.heap[w.heap.size]?=some (.cells #[VI 0,VU 0,SN] 312 (0,0))∧wr.ownsRow (w.heap.size+2) 142 3 (.slice ra acc.length rc) acc.length (cG acc)∧Hid (X=uv acc (bD zs va k n'))∧Bw w wr) (fun _ wr=>BQ wr (w.heap.size+1))
 case atStart=>exact ⟨l,n,none,0,[],nle,rfl,hn0,hn1,by simpa using hl,s0.out,r0.out,World.ownsRow_nil _ _ _ _,HX,b0⟩
 case round=>
  clear s0 r0 b0 HX hn0 hn1;obtain ⟨k,n',ra,rc,acc,hk,rfl,hn0,hn1,hac,hS,hR,hO,HX,hb⟩:=hrel;have HS:=hid hS;have HR:=hid hR;have HO:=hid hO;have hlt:=(hpl hS);have HM:Hid (BQ wr (w.heap.size+1)=k):=by
   show _=_;rw [BQ,(aE hS).1.1];rfl
  obtain ⟨⟨c0,c1,c2⟩,e0,e1,e2⟩:=aE hS;clear hS hR hO;obtain ⟨ix,hix⟩:∃ix,dq va (k:Int)=ix:=⟨_,rfl⟩;have hib:=rV va (k:Int);rw [hix] at hib;obtain ⟨rv,hrv⟩:∃rv,rdV zs (64*n'+8*ix) 8=rv:=⟨_,rfl⟩;have hrb:=oY zs (64*n'+8*ix) 8 (by omega) hzb;rw [hrv] at hrb;have HI:=hid hix;have HV:Hid (rdV zs (64*n'+8*ix) 8=rv):=hrv;clear hix hrv;go_wp2_with fail;refine (xn n' k va wr hv0 hv1 (by omega) hn0 hn1).mono ?_;rintro e w' ⟨rfl,nq,rfl⟩;rw [HI.out];have HS1:Hid ((wr.drewN nq).heap[w.heap.size+1]?=some (.cells #[VI k,VU 0,.slice ra acc.length rc] 312 (0,0))):=HS;have HR1:Hid ((wr.drewN nq).heap[w.heap.size]?=some (.cells #[VI 0,VU 0,SN] 312 (0,0))):=HR;have HO1:Hid ((wr.drewN nq).ownsRow (w.heap.size+2) 142 3 (.slice ra acc.length rc) acc.length (cG acc)):=HO;have hlt1:w.heap.size+1<(wr.drewN nq).heap.size:=hlt;have hb1:Bw w (wr.drewN nq):=below_drewN hb nq;generalize wr.drewN nq=v1 at HS1 HR1 HO1 hlt1 hb1 |-;clear c0 c1 c2 e0 e1 e2 HS HR HO hlt hb;obtain ⟨⟨c0,c1,c2⟩,e0,e1,e2⟩:=aE HS1.out;obtain ⟨⟨d0,d1,d2⟩,f0,f1,f2⟩:=aE HR1.out;have hm:=HMt.out v1 hb1;cases hg:dZ len (64*n'+8*ix) 8
  ·have HG:Hid (dZ len (64*n'+8*ix) 8=false):=hg;clear hg;go_wp2_with fail;refine (zM a len cap (64*n'+8*ix) v1 hlen (by omega) (by omega) HG.out).mono ?_;rintro e w' ⟨rfl,rfl⟩;go_wp2_with fail;have hX:X=(3,(k:Int),0,acc):=by
    rw [HX.out,uZ zs va k n' (by rw [hz,HI.out];exact HG.out)];simp [uv]
   refine bodyPost_ret (v:=.tuple #[.agg #[VI k,VU 0,.slice ra acc.length rc],.iface 289 (.agg #[])]) (by simp [results,Tryz.results203,go_sem,d0,d1,d2]) rfl ?_;rw [hX];exact ⟨⟨ra,rc,rfl,bW (aD HO1.out (gb3 _ w.heap.size _ _ _) (by omega)) (by omega)⟩,kT hb1 nle _ _ _⟩
  ·have HG:Hid (dZ len (64*n'+8*ix) 8=true):=hg;clear hg;go_wp2_with fail;refine (Bd a len cap zs (64*n'+8*ix) v1 (HB.out.keep hb1) hlen (by omega) (by omega) HG.out).mono ?_;rintro e w' ⟨rfl,rfl⟩;rw [HV.out];rcases ny rv (k:Int) with hkd | hkd | hkd
   ·have HK:Hid (aW rv (k:Int)=0):=hkd;clear hkd;go_wp2_with fail;refine (pW rv k _ hrb.1 hrb.2).mono ?_;rintro e w' ⟨rfl,rfl⟩;rw [HK.out];go_wp2_with fail;have hX:X=(2,(k:Int),0,acc):=by
     rw [HX.out,vd zs va k n' (by rw [hz,HI.out];exact HG.out) (by rw [HI.out,HV.out];exact HK.out)];simp [uv]
    refine bodyPost_ret (v:=.tuple #[.agg #[VI k,VU 0,.slice ra acc.length rc],.iface 288 (.agg #[])]) (by simp [results,Tryz.results203,go_sem,d0,d1,d2]) rfl ?_;rw [hX];exact ⟨⟨ra,rc,rfl,bW (aD HO1.out (gb3 _ w.heap.size _ _ _) (by omega)) (by omega)⟩,kT hb1 nle _ _ _⟩
   ·have HK:Hid (aW rv (k:Int)=1):=hkd;clear hkd;go_wp2_with fail;refine (pW rv k _ hrb.1 hrb.2).mono ?_;rintro e v3 ⟨rfl,rfl⟩;rw [HK.out];have n4:=(Below.refl v3.heap.size v3).alloc nle (Obj.cells #[VI k,VU (64*n'+8*ix),VU rv] 142);have HS4:Hid ((v3.alloc (Obj.cells #[VI k,VU (64*n'+8*ix),VU rv] 142)).heap[w.heap.size+1]?=some (.cells #[VI k,VU 0,.slice ra acc.length rc] 312 (0,0))):=ae HS1.out n4 hlt1;have HR4:Hid ((v3.alloc (Obj.cells #[VI k,VU (64*n'+8*ix),VU rv] 142)).heap[w.heap.size]?=some (.cells #[VI 0,VU 0,SN] 312 (0,0))):=ae HR1.out n4 (by omega);have HO4:Hid ((v3.alloc (Obj.cells #[VI k,VU (64*n'+8*ix),VU rv] 142)).ownsRow (w.heap.size+2) 142 3 (.slice ra acc.length rc) acc.length (cG acc)):=aq HO1.out n4;have HW4:Hid (RowC (v3.alloc (Obj.cells #[VI k,VU (64*n'+8*ix),VU rv] 142)) (some (AD v3.heap.size 0)) 1 3 (cG [((k:Int),64*n'+8*ix,rv)])):=(OwnC.new 142 3 v3 (cG [((k:Int),64*n'+8*ix,rv)]) 1 (by rfl) (by decide)).row;have l4:v3.heap.size<(v3.alloc (Obj.cells #[VI k,VU (64*n'+8*ix),VU rv] 142)).heap.size:=by simp
    have b4:Bw w (v3.alloc (Obj.cells #[VI k,VU (64*n'+8*ix),VU rv] 142)):=hb1.alloc (by omega) _;go_wp2_with (at_builtin;refine mM _ rfl (.tmp 43) (.tmp 49) 136 rfl 142 Tryz.underlying136 (.agg #[VI 0,VU 0,VU 0]) 3 24 Tryz.infoRec rfl (by decide) (w.heap.size+2) acc.length _ (cG acc) rfl HO4.out v3.heap.size 0 1 1 (cG [((k:Int),64*n'+8*ix,rv)]) rfl (by omega) HW4.out (nv _) (by omega) (by omega) (by omega) (w.heap.size+2) _ brf nle ?_;intro g5 cp5 v5 o5 n5;have HO5:Hid (v5.ownsRow (w.heap.size+2) 142 3 (SL g5 (acc.length+1) cp5) (acc.length+1) (cG acc++cG [((k:Int),64*n'+8*ix,rv)])):=o5;have HS5:Hid (v5.heap[w.heap.size+1]?=some (.cells #[VI k,VU 0,.slice ra acc.length rc] 312 (0,0))):=(n5.block _ (by omega)).trans HS4.out;have HR5:Hid (v5.heap[w.heap.size]?=some (.cells #[VI 0,VU 0,SN] 312 (0,0))):=(n5.block _ (by omega)).trans HR4.out;have b5:Bw w v5:=b4.trans (n5.mono (by omega));have l5:=n5.size;clear c0 c1 c2 e0 e1 e2 d0 d1 d2 f0 f1 f2 o5;obtain ⟨⟨c0,c1,c2⟩,e0,e1,e2⟩:=aE HS5.out;obtain ⟨⟨d0,d1,d2⟩,f0,f1,f2⟩:=aE HR5.out;clear n5 n4 HS4 HR4 HO4 HW4 b4 HS1 HR1 HO1);have HS6:Hid ((v5.setCell ⟨w.heap.size+1,2,none⟩ (SL g5 (acc.length+1) cp5)).heap[w.heap.size+1]?=some (.cells #[VI k,VU 0,SL g5 (acc.length+1) cp5] 312 (0,0))):=Ic HS5.out;have m6:=au (ak v5 (some (w.heap.size+1))) 2 (SL g5 (acc.length+1) cp5);have HR6:Hid ((v5.setCell ⟨w.heap.size+1,2,none⟩ (SL g5 (acc.length+1) cp5)).heap[w.heap.size]?=some (.cells #[VI 0,VU 0,SN] 312 (0,0))):=aA HR5.out m6 (by omega);have HO6:Hid ((v5.setCell ⟨w.heap.size+1,2,none⟩ (SL g5 (acc.length+1) cp5)).ownsRow (w.heap.size+2) 142 3 (SL g5 (acc.length+1) cp5) (acc.length+1) (cG acc++cG [((k:Int),64*n'+8*ix,rv)])):=aD HO5.out m6 (by omega);have b6:=b5.setCell (p:=⟨w.heap.size+1,2,none⟩) (by show w.heap.size<=w.heap.size+1;omega) (SL g5 (acc.length+1) cp5);refine (wH rv _ hrb.1 hrb.2).mono ?_;rintro e w' ⟨rfl,rfl⟩;generalize v5.setCell ⟨w.heap.size+1,2,none⟩ (SL g5 (acc.length+1) cp5)=v6 at HS6 HR6 HO6 b6 |-;clear c0 c1 c2 e0 e1 e2 d0 d1 d2 f0 f1 f2 m6 HS5 HR5 HO5 b5;obtain ⟨⟨c0,c1,c2⟩,e0,e1,e2⟩:=aE HS6.out;have hpb:=wC rv;obtain ⟨pp,hpp⟩:∃pp,dK rv=pp:=⟨_,rfl⟩;have HP:Hid (dK rv=pp):=hpp;rw [hpp] at hpb |-;clear hpp;obtain ⟨k',rfl⟩:∃k',k=k'+1:=by
     cases k with
     | zero=>exact absurd HK.out (jF _)
     | succ k'=>exact ⟨k',rfl⟩
    go_wp2;go_roundw
    case rel=>
     refine ⟨k',pp,some (AD g5 0),cp5,acc++[(((k'+1:Nat):Int),64*n'+8*ix,rv)],by omega,rfl,hpb.1,hpb.2,by simp;omega,?_,?_,?_,?_,?_⟩
     ·rw [show (acc++[(((k'+1:Nat):Int),64*n'+8*ix,rv)]).length=acc.length+1 by simp,show ((k':Nat):Int)=((k'+1:Nat):Int)-1 by omega];exact Ib HS6.out
     ·exact aA HR6.out (au (ak v6 (some (w.heap.size+1))) 0 _) (by omega)
     ·rw [show (acc++[(((k'+1:Nat):Int),64*n'+8*ix,rv)]).length=acc.length+1 by simp,jw];exact aD HO6.out (au (ak v6 (some (w.heap.size+1))) 0 _) (by omega)
     ·show _=_;rw [HX.out,tu zs va k' n' (by rw [hz,HI.out];exact HG.out) (by rw [HI.out,HV.out];exact HK.out),Fi,HI.out,HV.out,HP.out]
     ·exact b6.setCell (p:=⟨w.heap.size+1,0,none⟩) (by show w.heap.size<=w.heap.size+1;omega) _
    case measure=>
     rw [HM.out,BQ,(aE (Ib HS6.out)).1.1];simp [intOf]
   ·have HK:Hid (aW rv (k:Int)=2):=hkd;clear hkd;go_wp2_with fail;refine (pW rv k _ hrb.1 hrb.2).mono ?_;rintro e v3 ⟨rfl,rfl⟩;rw [HK.out];have n4:=(Below.refl v3.heap.size v3).alloc nle (Obj.cells #[VI k,VU (64*n'+8*ix),VU rv] 142);have HS4:=hid (ae HS1.out n4 hlt1);have HR4:=hid (ae HR1.out n4 (by omega));have HO4:=hid (aq HO1.out n4);have HW4:=hid ((OwnC.new 142 3 v3 (cG [((k:Int),64*n'+8*ix,rv)]) 1 (by rfl) (by decide)).row);have l4:v3.heap.size<(v3.alloc (Obj.cells #[VI k,VU (64*n'+8*ix),VU rv] 142)).heap.size:=by simp
    have b4:Bw w (v3.alloc (Obj.cells #[VI k,VU (64*n'+8*ix),VU rv] 142)):=hb1.alloc (by omega) _;go_wp2_with (at_builtin;refine mM _ rfl (.tmp 43) (.tmp 49) 136 rfl 142 Tryz.underlying136 (.agg #[VI 0,VU 0,VU 0]) 3 24 Tryz.infoRec rfl (by decide) (w.heap.size+2) acc.length _ (cG acc) rfl HO4.out v3.heap.size 0 1 1 (cG [((k:Int),64*n'+8*ix,rv)]) rfl (by omega) HW4.out (nv _) (by omega) (by omega) (by omega) (w.heap.size+2) _ brf nle ?_;intro g5 cp5 v5 o5 n5;have HO5:Hid (v5.ownsRow (w.heap.size+2) 142 3 (SL g5 (acc.length+1) cp5) (acc.length+1) (cG acc++cG [((k:Int),64*n'+8*ix,rv)])):=o5;have HS5:Hid (v5.heap[w.heap.size+1]?=some (.cells #[VI k,VU 0,.slice ra acc.length rc] 312 (0,0))):=(n5.block _ (by omega)).trans HS4.out;have HR5:Hid (v5.heap[w.heap.size]?=some (.cells #[VI 0,VU 0,SN] 312 (0,0))):=(n5.block _ (by omega)).trans HR4.out;have b5:Bw w v5:=b4.trans (n5.mono (by omega));have l5:=n5.size;clear c0 c1 c2 e0 e1 e2 d0 d1 d2 f0 f1 f2 o5;obtain ⟨⟨c0,c1,c2⟩,e0,e1,e2⟩:=aE HS5.out;obtain ⟨⟨d0,d1,d2⟩,f0,f1,f2⟩:=aE HR5.out;clear n5 n4 HS4 HR4 HO4 HW4 b4 HS1 HR1 HO1);have hX:X=(1,(k:Int),rv,acc++[((k:Int),64*n'+8*ix,rv)]):=by
     rw [HX.out,ts zs va k n' (by rw [hz,HI.out];exact HG.out) (by rw [HI.out,HV.out];exact HK.out),HI.out,HV.out];rfl
    refine bodyPost_ret (v:=.tuple #[.agg #[VI k,VU rv,SL g5 (acc.length+1) cp5],.nilIface]) (by simp [results,Tryz.results203,go_sem,d0,d1,d2]) rfl ?_;rw [hX];refine ⟨⟨some (AD g5 0),cp5,?_,?_⟩,kT ((b5.setCell (p:=⟨w.heap.size+1,2,none⟩) (by show w.heap.size<=w.heap.size+1;omega) _).setCell (p:=⟨w.heap.size+1,1,none⟩) (by show w.heap.size<=w.heap.size+1;omega) _) nle _ _ _⟩
    ·simp [cK]
    ·rw [show (acc++[((k:Int),64*n'+8*ix,rv)]).length=acc.length+1 by simp,jw];exact bW (aD (aD HO5.out (au (au (ak v5 (some (w.heap.size+1))) 2 _) 1 _) (by omega)) (gb3 _ w.heap.size _ _ _) (by omega)) (by omega)
theorem qh (va l:Int) (hl:l=0∨l=1∨l=2):0<=eg va l∧eg va l<=511:=by
 rcases hl with rfl | rfl | rfl <;> simp only [eg] <;> (try simp) <;> omega
theorem Hh {t:TlbM} {p:Bool} {va asid l:Int} {q:Nat} {x:EntM} (hv:aY t p=true) (hx:t.es[q]?=some x) (hh:jU va asid l x=true):(q:Int)/t.ways=eg va l%t.sets:=by
 have hp:=jc hv q x hx;simp only [jU,kN,Bool.and_eq_true,beq_iff_eq] at hh;obtain ⟨h1,⟨h2,h3⟩,_⟩:=hh;simp only [dy,Bool.or_eq_true,Bool.and_eq_true,beq_iff_eq] at hp;rcases hp with hp | hp
 ·rw [h2] at hp;simp at hp
 ·rw [<-hp.2,h3,h1]
theorem zv {t:TlbM} {p:Bool} (hv:aY t p=true):(t.sets=1∨t.sets=2∨t.sets=4∨t.sets=8)∧1<=t.ways∧t.ways<=4∧(t.es.length:Int)=t.sets*t.ways:=JM hv
theorem xe {t:TlbM} {p:Bool} {va asid l:Int} {q f:Nat} {x:EntM} (hv:aY t p=true) (hx:t.es[q]?=some x) (hf:(f:Int)=eg va l%t.sets*t.ways) (hq:q<f∨(f:Int)+t.ways<=q):jU va asid l x=false:=by
 cases hh:jU va asid l x
 ·rfl
 ·exfalso;have h1:=Hh hv hx hh;obtain ⟨_,w1,w4,_⟩:=zv hv;rw [<-h1] at hf;rcases (show t.ways=1∨t.ways=2∨t.ways=3∨t.ways=4 by omega) with hw | hw | hw | hw <;> rw [hw] at hf hq <;> omega
theorem DL {t:TlbM} {p:Bool} {va asid l:Int} {f:Nat} (hv:aY t p=true) (hf:(f:Int)=eg va l%t.sets*t.ways)
 (h:∀(j:Nat) x,(j:Int)<t.ways->t.es[f+j]?=some x->jU va asid l x=false):er va asid l 0 t.es=none:=by
 refine sy va asid l t.es 0 (fun j x hx=>?_);by_cases h1:j<f
 ·exact xe hv hx hf (.inl h1)
 ·by_cases h2:(f:Int)+t.ways<=j
  ·exact xe hv hx hf (.inr h2)
  ·exact h (j-f) x (by omega) (by rw [show f+(j-f)=j by omega];exact hx)
theorem DM {t:TlbM} {p:Bool} {va asid l:Int} {f k:Nat} {x:EntM} (hv:aY t p=true) (hf:(f:Int)=eg va l%t.sets*t.ways) (hx:t.es[f+k]?=some x) (hh:jU va asid l x=true)
 (h:∀(j:Nat) y,j<k->t.es[f+j]?=some y->jU va asid l y=false):er va asid l 0 t.es=some (f+k,x):=by
 have:=sA va asid l t.es 0 (f+k) x hx hh (fun j y hj hy=>by
  by_cases h1:j<f
  ·exact xe hv hy hf (.inl h1)
  ·exact h (j-f) y (by omega) (by rw [show f+(j-f)=j by omega];exact hy))
 rw [Nat.zero_add] at this;exact this
theorem vo (va asid l:Int):∀(es:List EntM) (i k:Nat) (x:EntM),er va asid l i es=some (k,x)->∃j,k=i+j∧es[j]?=some x∧jU va asid l x=true
 | [],i,k,x,h=>by cases h
 | e::r,i,k,x,h=>by
  rw [er] at h;split at h
  ·rename_i hh;cases h;exact ⟨0,rfl,rfl,hh⟩
  ·obtain ⟨j,rfl,h2,h3⟩:=vo va asid l r (i+1) k x h;exact ⟨j+1,by omega,by simpa using h2,h3⟩
theorem ot (t:TlbM) (va asid:Int) (h:(cB t va asid).1=true):∃(k:Nat) (x:EntM),t.es[k]?=some x∧(cB t va asid).2.1=(k:Int)∧(cB t va asid).2.2.1=x.level∧(cB t va asid).2.2.2=x.pte∧kN x va asid=true∧x.valid=true:=by
 have key:∀(l:Int) (k:Nat) (x:EntM),er va asid l 0 t.es=some (k,x)->t.es[k]?=some x∧l=x.level∧kN x va asid=true∧x.valid=true:=by
  intro l k x hf;obtain ⟨j,rfl,h2,h3⟩:=vo va asid l t.es 0 k x hf;simp only [jU,Bool.and_eq_true,beq_iff_eq] at h3;have hv:x.valid=true:=by
   have:=h3.2;simp only [kN,Bool.and_eq_true] at this;exact this.1.1
  exact ⟨by rw [Nat.zero_add];exact h2,h3.1.symm,h3.2,hv⟩
 unfold cB at h |-;split at h
 ·cases h
 ·rename_i he;rw [if_neg he];cases h0:er va asid 0 0 t.es with
  | some y=>
   obtain ⟨k,x⟩:=y;obtain ⟨a1,a2,a3,a4⟩:=key 0 k x h0;exact ⟨k,x,a1,by simp [iS],by simp [iS,<-a2],by simp [iS],a3,a4⟩
  | none=>
   cases h1:er va asid 1 0 t.es with
   | some y=>
    obtain ⟨k,x⟩:=y;obtain ⟨a1,a2,a3,a4⟩:=key 1 k x h1;exact ⟨k,x,a1,by simp [iS],by simp [iS,<-a2],by simp [iS],a3,a4⟩
   | none=>
    cases h2:er va asid 2 0 t.es with
    | some y=>
     obtain ⟨k,x⟩:=y;obtain ⟨a1,a2,a3,a4⟩:=key 2 k x h2;exact ⟨k,x,a1,by simp [iS],by simp [iS,<-a2],by simp [iS],a3,a4⟩
    | none=>
     rw [h0,h1,h2] at h;simp [iS] at h
def sV (r:Int × Int × Int × List aQ) (k:Nat) (ps:List aQ):Prop:=
 (∀p∈ps,aW p.2.2 p.1=1∧0<=p.1∧p.1<=k∧0<=p.2.2∧p.2.2<=18446744073709551615)∧
 ((r.1=1∧(∃ad,r.2.2.2=ps++[(r.2.1,ad,r.2.2.1)])∧aW r.2.2.1 r.2.1=2∧0<=r.2.1∧r.2.1<=k∧0<=r.2.2.1∧r.2.2.1<=18446744073709551615)∨((r.1=2∨r.1=3)∧r.2.2.2=ps∧r.2.2.1=0))
theorem sW (level:Int):aW 0 level≠2:=by
 unfold aW;split
 ·decide
 ·simp [bU];split <;> omega
theorem jZ (zs:List Int) (va:Int) (hz:∀i:Nat,0<=zs[i]?.getD 0∧zs[i]?.getD 0<=255):∀(k:Nat) (n:Int),∃ps,sV (bD zs va k n) k ps∧ps.length<=k
 | k,n=>by
  cases hg:dZ zs.length (64*n+8*dq va k) 8
  ·rw [uZ zs va k n hg];exact ⟨[],⟨by simp,.inr ⟨.inr rfl,rfl,rfl⟩⟩,by simp⟩
  ·have hb:=oY zs (64*n+8*dq va k) 8 (by omega) hz;rcases ny (rdV zs (64*n+8*dq va k) 8) (k:Int) with hk | hk | hk
   ·rw [vd zs va k n hg hk];exact ⟨[],⟨by simp,.inr ⟨.inl rfl,rfl,rfl⟩⟩,by simp⟩
   ·cases k with
    | zero=>exact absurd hk (jF _)
    | succ k'=>
     rw [tu zs va k' n hg hk];obtain ⟨ps,⟨h1,h2⟩,h3⟩:=jZ zs va hz k' (dK (rdV zs (64*n+8*dq va ((k'+1:Nat):Int)) 8));refine ⟨(((k'+1:Nat):Int),64*n+8*dq va ((k'+1:Nat):Int),rdV zs (64*n+8*dq va ((k'+1:Nat):Int)) 8)::ps,⟨?_,?_⟩,by simp;omega⟩
     ·intro p hp;rcases List.mem_cons.1 hp with rfl | hp
      ·exact ⟨hk,by simp only;omega,by simp only;omega,hb.1,hb.2⟩
      ·obtain ⟨q1,q2,q3,q4⟩:=h1 p hp;exact ⟨q1,q2,by omega,q4⟩
     ·simp only [uv];rcases h2 with ⟨e1,⟨ad,e2⟩,e3,e4,e5,e6⟩ | ⟨e1,e2,e3⟩
      ·exact .inl ⟨e1,⟨ad,by rw [e2];rfl⟩,e3,e4,by omega,e6⟩
      ·exact .inr ⟨e1,by rw [e2];rfl,e3⟩
   ·rw [ts zs va k n hg hk];exact ⟨[],⟨by simp,.inl ⟨rfl,⟨_,rfl⟩,hk,by simp only;omega,Int.le_refl _,hb.1,hb.2⟩⟩,by simp⟩
theorem ru (zs:List Int) (root va:Int) (hz:∀i:Nat,0<=zs[i]?.getD 0∧zs[i]?.getD 0<=255):∃ps,sV (bO zs root va) 2 ps∧ps.length<=2:=by
 unfold bO;split
 ·exact ⟨[],⟨by simp,.inr ⟨.inl rfl,rfl,rfl⟩⟩,by simp⟩
 ·exact jZ zs va hz 2 _
theorem Aw {r:Int × Int × Int × List aQ} {k k':Nat} {ps:List aQ} (h:sV r k ps) (hk:k<=k'):sV r k' ps:=by
 obtain ⟨h1,h2⟩:=h;refine ⟨fun p hp=>?_,?_⟩
 ·obtain ⟨q1,q2,q3,q4⟩:=h1 p hp;exact ⟨q1,q2,by omega,q4⟩
 ·rcases h2 with ⟨e1,e2,e3,e4,e5,e6⟩ | h2
  ·exact .inl ⟨e1,e2,e3,e4,by omega,e6⟩
  ·exact .inr h2
theorem oH (zs:List Int) (satp va:Int) (t:TlbM) (asid:Int) (ht:aY t true=true) (hz:∀i:Nat,0<=zs[i]?.getD 0∧zs[i]?.getD 0<=255):∃ps,sV (aX zs satp va (cB t va asid)) 2 ps∧ps.length<=2:=by
 unfold aX;split
 ·rename_i hf;obtain ⟨q,x,h1,h2,h3,h4,h5,h6⟩:=ot t va asid hf;have hl:=fu (ep ht) q x h1 h6;have hle:((cB t va asid).2.2.1-1).toNat<=2:=by rw [h3];omega
  obtain ⟨ps,a1,a2⟩:=jZ zs va hz ((cB t va asid).2.2.1-1).toNat (dK (cB t va asid).2.2.2);exact ⟨ps,Aw a1 hle,by omega⟩
 ·exact ru zs satp va hz
theorem mA (va satp pick:Int):∀(a b:List aQ) (p:TlbM),dt va satp pick (a++b) p=dt va satp pick b (dt va satp pick a p)
 | [],b,p=>rfl
 | r::a,b,p=>by
  rw [List.cons_append,dt,dt];exact mA va satp pick a b _
theorem ly (t:TlbM) (e:EntM) (pick:Int):(eT t e pick).es.length=t.es.length∧(eT t e pick).sets=t.sets∧(eT t e pick).ways=t.ways:=by
 unfold eT;split
 ·simp
 ·exact ⟨rfl,rfl,rfl⟩
theorem sX (va satp pick:Int):∀(rs:List aQ) (p:TlbM),(dt va satp pick rs p).es.length=p.es.length∧(dt va satp pick rs p).sets=p.sets∧(dt va satp pick rs p).ways=p.ways
 | [],p=>⟨rfl,rfl,rfl⟩
 | r::rs,p=>by
  rw [dt];have ih:=sX va satp pick rs (if aW r.2.2 r.1=1 then eT p (JO r.1 va satp r.2.2) pick else p);split at ih
  ·rename_i hk;rw [if_pos hk];have h:=ly p (JO r.1 va satp r.2.2) pick;exact ⟨ih.1.trans h.1,ih.2.1.trans h.2.1,ih.2.2.trans h.2.2⟩
  ·rename_i hk;rw [if_neg hk];exact ih
theorem Ax {r:Int × Int × Int × List aQ} {k:Nat} {ps:List aQ} (va satp pick:Int) (p:TlbM) (h:sV r k ps):dt va satp pick r.2.2.2 p=dt va satp pick ps p:=by
 rcases h.2 with ⟨_,⟨ad,e⟩,hk,_⟩ | ⟨_,e,_⟩
 ·rw [e,mA];rw [dt,dt,if_neg (by simp only;omega)]
 ·rw [e]
theorem Hw (t:TlbM) (va asid:Int) (he:∀e∈t.es,iW e) (h:(cB t va asid).1=true):(0<=(cB t va asid).2.2.2∧(cB t va asid).2.2.2<=18446744073709551615)∧(-9223372036854775808<=(cB t va asid).2.2.1∧(cB t va asid).2.2.1<=9223372036854775807):=by
 obtain ⟨k,x,hx,_,hl,hp,_⟩:=ot t va asid h;have hk:=he x (List.mem_of_getElem? hx);rw [hl,hp];exact ⟨hk.2.2.2,hk.1⟩
theorem vg (zs:List Int) (root va:Int):(bO zs root va).2.2.2.length<=3:=by
 unfold bO;split
 ·simp
 ·exact nZ zs va 2 _
structure WalkLim (r:Int × Int × Int × List aQ):Prop where
 len:r.2.2.2.length<=3
 pte:0<=r.2.2.1∧r.2.2.1<=18446744073709551615
 level:0<=r.2.1∧r.2.1<=2
 recs:∀x∈r.2.2.2,(0<=x.1∧x.1<=2)∧0<=x.2.2∧x.2.2<=18446744073709551615
theorem pr {r:Int × Int × Int × List aQ} {ps:List aQ} (h:sV r 2 ps):∀x∈r.2.2.2,(0<=x.1∧x.1<=2)∧0<=x.2.2∧x.2.2<=18446744073709551615:=by
 obtain ⟨h1,h2⟩:=h;intro x hx;rcases h2 with ⟨_,⟨ad,e⟩,_,e4,e5,e6,e7⟩ | ⟨_,e,_⟩
 ·rw [e] at hx;rcases List.mem_append.1 hx with hx | hx
  ·obtain ⟨_,q2,q3,q4,q5⟩:=h1 x hx;exact ⟨⟨q2,by omega⟩,q4,q5⟩
  ·have:x=(r.2.1,ad,r.2.2.1):=by simpa using hx
   subst this;exact ⟨⟨e4,by omega⟩,e6,e7⟩
 ·rw [e] at hx;obtain ⟨_,q2,q3,q4,q5⟩:=h1 x hx;exact ⟨⟨q2,by omega⟩,q4,q5⟩
theorem wY (zs:List Int) (satp va:Int) (t:TlbM) (asid:Int) (ht:aY t true=true) (he:∀e∈t.es,iW e) (hz:∀i:Nat,0<=zs[i]?.getD 0∧zs[i]?.getD 0<=255):
 ((cB t va asid).1=true->∃l:Nat,(cB t va asid).2.2.1=(l:Int)+1∧l<=1∧0<=(cB t va asid).2.2.2∧(cB t va asid).2.2.2<=18446744073709551615∧aX zs satp va (cB t va asid)=bD zs va l (dK (cB t va asid).2.2.2))∧
 ((cB t va asid).1=false->aX zs satp va (cB t va asid)=bO zs satp va)∧WalkLim (aX zs satp va (cB t va asid)):=by
 obtain ⟨ps,hs,_⟩:=oH zs satp va t asid ht hz;cases hf:(cB t va asid).1
 ·have e:aX zs satp va (cB t va asid)=bO zs satp va:=by rw [aX,if_neg (by rw [hf];simp)]
  have hb:=tA zs satp va hz;refine ⟨fun h=>(by cases h),fun _=>e,?_⟩;have hr:=pr hs;rw [e] at hr |-;exact ⟨vg zs satp va,⟨hb.1,hb.2.1⟩,hb.2.2,hr⟩
 ·obtain ⟨q,x,h1,h2,h3,h4,h5,h6⟩:=ot t va asid hf;have hl:=fu (ep ht) q x h1 h6;have hpl:=jc ht q x h1;have hlim:=(Hw t va asid he hf).1;have hk1:x.level≠0:=by
   intro h0;have hg:bK x true=true:=by
    simp only [dy,Bool.or_eq_true,Bool.and_eq_true] at hpl;have h7:bK x true=true∧x.tag%t.sets=q/t.ways:=by simpa [h6] using hpl
    exact h7.1
   have:=qS hg;rw [h0] at this;exact jF _ this
  have e:aX zs satp va (cB t va asid)=bD zs va ((cB t va asid).2.2.1-1).toNat (dK (cB t va asid).2.2.2):=by rw [aX,if_pos hf]
  have hb:=tz zs va hz ((cB t va asid).2.2.1-1).toNat (dK (cB t va asid).2.2.2) (by rw [h3];omega);refine ⟨fun _=>⟨((cB t va asid).2.2.1-1).toNat,by rw [h3];omega,by rw [h3];omega,hlim.1,hlim.2,e⟩,fun h=>(by cases h),?_⟩;have hr:=pr hs;have hln:=nZ zs va ((cB t va asid).2.2.1-1).toNat (dK (cB t va asid).2.2.2);rw [e] at hr |-;exact ⟨by rw [h3] at hln |-;omega,⟨hb.1,hb.2.1⟩,hb.2.2,hr⟩
theorem BC (level va satp pte:Int) (hl:0<=level∧level<=2) (hp:0<=pte∧pte<=18446744073709551615):iW (JO level va satp pte):=by
 have ht:=qh va level (by omega);refine ⟨⟨by simp only [JO];omega,by simp only [JO];omega⟩,⟨ht.1,?_⟩,?_,hp⟩
 ·simp only [JO];omega
 ·simp only [JO,aO];omega
theorem uP {t:TlbM} {e:EntM} (pick:Int) (ht:gy t) (he:iW e):gy (eT t e pick):=by
 obtain ⟨l1,l2,l3⟩:=ly t e pick;obtain ⟨h1,h2,h3,h4⟩:=ht;refine ⟨?_,by rw [l2];exact h2,by rw [l3];exact h3,by rw [l1];exact h4⟩;unfold eT;split
 ·intro x hx;simp only at hx;rcases List.mem_or_eq_of_mem_set hx with hx | rfl
  ·exact h1 x hx
  ·exact he
 ·exact h1
theorem BD (va satp pick:Int):∀(rs:List aQ) (p:TlbM),gy p->(∀x∈rs,(0<=x.1∧x.1<=2)∧0<=x.2.2∧x.2.2<=18446744073709551615)->gy (dt va satp pick rs p)
 | [],p,h,_=>h
 | r::rs,p,h,hx=>by
  rw [dt];refine BD va satp pick rs _ ?_ fun x hx'=>hx x (List.mem_cons_of_mem _ hx');have hr:=hx r (List.mem_cons_self ..);split
  ·exact uP pick h (BC _ _ _ _ hr.1 hr.2)
  ·exact h
end Go.Proofs.YtkenjknmfhoppaaGreat
