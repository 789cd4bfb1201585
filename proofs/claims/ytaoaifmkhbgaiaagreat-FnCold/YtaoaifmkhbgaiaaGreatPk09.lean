import Derived.Test.YtaoaifmkhbgaiaaGreatPk08
import Derived.Test.YtaoaifmkhbgaiaaGreatPk04
import Derived.Test.YtaoaifmkhbgaiaaGreatPk01
import Derived.Test.YtaoaifmkhbgaiaaGreatPk05
namespace Go.Proofs.YtaoaifmkhbgaiaaGreat
open Go.RowKit
set_option linter.unusedVariables false
def fJ (x kind:Int) (mxr:Bool):Bool:=if kind=0 then bK x 8 else if kind=1 then bK x 2 || (mxr && bK x 8) else if kind=2 then bK x 4 else false
theorem jE (x kind:Int) (mxr:Bool) (w:World) (h0:0≤x) (h1:x≤18446744073709551615):
 Calls Tryz.prog 151 #[.int .u64 x,.int .i64 kind,.bool mxr] w fun e w'=>e=.returned (.bool (fJ x kind mxr))∧w'=w:=by
 have HR:Hid (kK x 2=bK x 2):=ep 1 x 2 rfl (by omega) h0 h1;have HW:Hid (kK x 4=bK x 4):=ep 2 x 4 rfl (by omega) h0 h1;have HX:Hid (kK x 8=bK x 8):=ep 3 x 8 rfl (by omega) h0 h1;by_cases k0:kind=0
 ·subst k0;go_enter Tryz.func151,Tryz.ntmps151;go_wp2_with (go_at_call 144;refine (ee x _ _).mono ?_;rintro e w' ⟨rfl,rfl⟩;rw [HX.out]);go_ret;exact ⟨rfl,rfl⟩
 have k0':(kind == 0)=false:=by simpa using k0
 by_cases k1:kind=1
 ·subst k1;cases hr:bK x 2 <;> cases mxr;all_goals
   go_enter Tryz.func151,Tryz.ntmps151;go_wp2_with (go_at_call 144;refine (ee x _ _).mono ?_;rintro e w' ⟨rfl,rfl⟩;first | rw [HR.out,hr] | rw [HX.out]);go_ret;exact ⟨aF (by simp [fJ,hr]),rfl⟩
 have k1':(kind == 1)=false:=by simpa using k1
 by_cases k2:kind=2
 ·subst k2;go_enter Tryz.func151,Tryz.ntmps151;go_wp2_with (go_at_call 144;refine (ee x _ _).mono ?_;rintro e w' ⟨rfl,rfl⟩;rw [HW.out]);go_ret;exact ⟨rfl,rfl⟩
 have k2':(kind == 2)=false:=by simpa using k2
 have HE:Hid (fJ x kind mxr=false):=by show _=_;rw [fJ,if_neg k0,if_neg k1,if_neg k2]
 clear k0 k1 k2;go_enter Tryz.func151,Tryz.ntmps151;go_wp2_with fail;go_ret;exact ⟨aF HE.out.symm,rfl⟩
def fK (x kind mode:Int) (sum:Bool):Bool:=if mode=0 then bK x 16 else if mode=1 then !bK x 16 || (sum && kind != 0) else false
theorem mW (x kind mode:Int) (sum:Bool) (w:World) (h0:0≤x) (h1:x≤18446744073709551615):
 Calls Tryz.prog 152 #[.int .u64 x,.int .i64 kind,.int .i64 mode,.bool sum] w fun e w'=>e=.returned (.bool (fK x kind mode sum))∧w'=w:=by
 have HU:Hid (kK x 16=bK x 16):=ep 4 x 16 rfl (by omega) h0 h1;by_cases k0:mode=0
 ·subst k0;go_enter Tryz.func152,Tryz.ntmps152;go_wp2_with (go_at_call 144;refine (ee x _ _).mono ?_;rintro e w' ⟨rfl,rfl⟩;rw [HU.out]);go_ret;exact ⟨rfl,rfl⟩
 have k0':(mode == 0)=false:=by simpa using k0
 by_cases k1:mode=1
 ·subst k1;cases hu:bK x 16 <;> cases sum;all_goals
   go_enter Tryz.func152,Tryz.ntmps152;go_wp2_with (go_at_call 144;refine (ee x _ _).mono ?_;rintro e w' ⟨rfl,rfl⟩;rw [HU.out,hu]);all_goals
    go_ret;exact ⟨aF (by simp_all [fK]),rfl⟩
 have k1':(mode == 1)=false:=by simpa using k1
 have HE:Hid (fK x kind mode sum=false):=by show _=_;rw [fK,if_neg k0,if_neg k1]
 clear k0 k1;go_enter Tryz.func152,Tryz.ntmps152;go_wp2_with fail;go_ret;exact ⟨aF HE.out.symm,rfl⟩
def mI (x kind:Int):Bool:=bK x 64 && (kind != 2 || bK x 128)
theorem yW (x kind:Int) (w:World) (h0:0≤x) (h1:x≤18446744073709551615):
 Calls Tryz.prog 153 #[.int .u64 x,.int .i64 kind] w fun e w'=>e=.returned (.bool (mI x kind))∧w'=w:=by
 have HA:Hid (kK x 64=bK x 64):=ep 6 x 64 rfl (by omega) h0 h1;have HD:Hid (kK x 128=bK x 128):=ep 7 x 128 rfl (by omega) h0 h1;cases ha:bK x 64
 ·go_enter Tryz.func153,Tryz.ntmps153;go_wp2_with (go_at_call 144;refine (ee x _ _).mono ?_;rintro e w' ⟨rfl,rfl⟩;rw [HA.out,ha]);go_ret;exact ⟨aF (by simp [mI,ha]),rfl⟩
 ·cases hk:(kind != 2)
  ·go_enter Tryz.func153,Tryz.ntmps153;go_wp2_with (go_at_call 144;refine (ee x _ _).mono ?_;rintro e w' ⟨rfl,rfl⟩;first | rw [HA.out,ha] | rw [HD.out]);go_ret;exact ⟨aF (by simp [mI,ha,hk]),rfl⟩
  ·go_enter Tryz.func153,Tryz.ntmps153;go_wp2_with (go_at_call 144;refine (ee x _ _).mono ?_;rintro e w' ⟨rfl,rfl⟩;first | rw [HA.out,ha] | rw [HD.out]);go_ret;exact ⟨aF (by simp [mI,ha,hk]),rfl⟩
theorem wh (x kind mode:Int) (sum mxr:Bool):cH x kind mode sum mxr=(fJ x kind mxr && fK x kind mode sum && mI x kind):=by
 simp only [cH,fJ,fK,mI];by_cases k0:kind=0
 ·subst k0;simp only [if_pos];cases bK x 8 <;> cases bK x 64 <;> simp <;> split <;> simp
 by_cases k1:kind=1
 ·subst k1;simp only [if_neg k0,if_pos];by_cases m0:mode=0
  ·subst m0;simp
  by_cases m1:mode=1
  ·subst m1;simp
  ·simp [m0,m1]
 by_cases k2:kind=2
 ·subst k2;by_cases m0:mode=0
  ·subst m0;simp;cases bK x 64 <;> cases bK x 128 <;> cases bK x 4 <;> simp
  by_cases m1:mode=1
  ·subst m1;simp;cases bK x 64 <;> cases bK x 128 <;> cases bK x 4 <;> cases bK x 16 <;> cases sum <;> simp
  ·simp [m0,m1]
 ·simp [k0,k1,k2]
theorem mf (x kind mode:Int) (sum mxr:Bool) (w:World) (h0:0≤x) (h1:x≤18446744073709551615):
 Calls Tryz.prog 139 #[.int .u64 x,.int .i64 kind,.int .i64 mode,.bool sum,.bool mxr] w fun e w'=>e=.returned (.bool (cH x kind mode sum mxr))∧w'=w:=by
 rw [wh];cases hk:fJ x kind mxr
 ·go_enter Tryz.func139,Tryz.ntmps139;go_wp2_with (first
   | (go_at_call 151;refine (jE x kind mxr _ h0 h1).mono ?_;rintro e w' ⟨rfl,rfl⟩;rw [hk]))
  go_ret;exact ⟨aF (by simp),rfl⟩
 cases hm:fK x kind mode sum
 ·go_enter Tryz.func139,Tryz.ntmps139;go_wp2_with (first
   | (go_at_call 151;refine (jE x kind mxr _ h0 h1).mono ?_;rintro e w' ⟨rfl,rfl⟩;rw [hk])
   | (go_at_call 152;refine (mW x kind mode sum _ h0 h1).mono ?_;rintro e w' ⟨rfl,rfl⟩;rw [hm]))
  go_ret;exact ⟨aF (by simp),rfl⟩
 ·go_enter Tryz.func139,Tryz.ntmps139;go_wp2_with (first
   | (go_at_call 151;refine (jE x kind mxr _ h0 h1).mono ?_;rintro e w' ⟨rfl,rfl⟩;rw [hk])
   | (go_at_call 152;refine (mW x kind mode sum _ h0 h1).mono ?_;rintro e w' ⟨rfl,rfl⟩;rw [hm])
   | (go_at_call 153;refine (yW x kind _ h0 h1).mono ?_;rintro e w' ⟨rfl,rfl⟩))
  go_ret;exact ⟨aF (by simp),rfl⟩
theorem kW (level m:Int) (w:World) (h:(level=0∧m=63)∨(level=1∧m=511)∨(level=2∧m=4095)):
 Calls Tryz.prog 154 #[.int .i64 level] w fun e w'=>e=.returned (.int .u64 m)∧w'=w:=by
 rcases h with ⟨rfl,rfl⟩ | ⟨rfl,rfl⟩ | ⟨rfl,rfl⟩
 ·go_enter Tryz.func154,Tryz.ntmps154;go_wp2_with (go_at_call 127;refine (dY 6 63 _ (by omega)).mono ?_;rintro e w' ⟨rfl,rfl⟩);go_ret;exact ⟨rfl,rfl⟩
 ·go_enter Tryz.func154,Tryz.ntmps154;go_wp2_with (go_at_call 127;refine (dY 9 511 _ (by omega)).mono ?_;rintro e w' ⟨rfl,rfl⟩);go_ret;exact ⟨rfl,rfl⟩
 ·go_enter Tryz.func154,Tryz.ntmps154;go_wp2_with (go_at_call 127;refine (dY 12 4095 _ (by omega)).mono ?_;rintro e w' ⟨rfl,rfl⟩);go_ret;exact ⟨rfl,rfl⟩
theorem Aw (x level va:Int) (w:World) (h0:0≤x) (h1:x≤18446744073709551615) (hl:level=0∨level=1∨level=2) (hv0:0≤va) (hv1:va≤18446744073709551615):
 Calls Tryz.prog 140 #[.int .u64 x,.int .i64 level,.int .u64 va] w fun e w'=>e=.returned (.int .u64 (eV x level va))∧w'=w:=by
 have hpp:0≤dK x∧dK x<17592186044416:=⟨Int.emod_nonneg _ (by omega),Int.emod_lt_of_pos _ (by omega)⟩;have HP:∀w,Hid (Calls Tryz.prog 155 #[.int .u64 x] w fun e w'=>e=.returned (.int .u64 (dK x))∧w'=w):=fun w=>ud x w h0 h1;have HE:Hid (eV x level va=dK x*64/hJ level*hJ level+va%hJ level):=by
  show _=_;rw [eV,if_neg (by omega)]
 rw [HE.out];clear HE;generalize dK x=p at *;rcases hl with rfl | rfl | rfl
 ·have H:Hid (bits .or .u64 (bits .andNot .u64 (p*64) 63) (bits .and .u64 va 63)=p*64/hJ 0*hJ 0+va%hJ 0):=
   nx 6 (p*64) va 63 64 rfl rfl (by omega) (by omega) (by omega) hv0 hv1
  go_enter Tryz.func140,Tryz.ntmps140;go_wp2_with (first
   | (go_at_call 155;refine ((HP _).out).mono ?_;rintro e w' ⟨rfl,rfl⟩)
   | (go_at_call 154;refine (kW 0 63 _ (by omega)).mono ?_;rintro e w' ⟨rfl,rfl⟩))
  go_ret;exact ⟨dB H.out,rfl⟩
 ·have H:Hid (bits .or .u64 (bits .andNot .u64 (p*64) 511) (bits .and .u64 va 511)=p*64/hJ 1*hJ 1+va%hJ 1):=
   nx 9 (p*64) va 511 512 rfl rfl (by omega) (by omega) (by omega) hv0 hv1
  go_enter Tryz.func140,Tryz.ntmps140;go_wp2_with (first
   | (go_at_call 155;refine ((HP _).out).mono ?_;rintro e w' ⟨rfl,rfl⟩)
   | (go_at_call 154;refine (kW 1 511 _ (by omega)).mono ?_;rintro e w' ⟨rfl,rfl⟩))
  go_ret;exact ⟨dB H.out,rfl⟩
 ·have H:Hid (bits .or .u64 (bits .andNot .u64 (p*64) 4095) (bits .and .u64 va 4095)=p*64/hJ 2*hJ 2+va%hJ 2):=
   nx 12 (p*64) va 4095 4096 rfl rfl (by omega) (by omega) (by omega) hv0 hv1
  go_enter Tryz.func140,Tryz.ntmps140;go_wp2_with (first
   | (go_at_call 155;refine ((HP _).out).mono ?_;rintro e w' ⟨rfl,rfl⟩)
   | (go_at_call 154;refine (kW 2 4095 _ (by omega)).mono ?_;rintro e w' ⟨rfl,rfl⟩))
  go_ret;exact ⟨dB H.out,rfl⟩
theorem zM (va level:Int) (w:World) (hv0:0≤va) (hv1:va≤18446744073709551615) (hl:level=0∨level=1∨level=2):
 Calls Tryz.prog 163 #[.int .u64 va,.int .i64 level] w fun e w'=>e=.returned (.int .u64 (dA va level))∧∃n,w'=w.drewN n:=by
 rcases hl with rfl | rfl | rfl
 ·have H:Hid (bits .and .u64 (va/64) 7=dA va 0):=ew 3 (va/64) 7 rfl (by omega) (by omega) (by omega);go_enter Tryz.func163,Tryz.ntmps163;go_wp2_with fail;go_quiet ((go_at_call 127;exact Calls.quiet_of_same (dY 3 7 _ (by omega))));go_wp2_with fail;go_ret;exact ⟨dB H.out,nq,rfl⟩
 ·have H:Hid (bits .and .u64 (va/512) 7=dA va 1):=ew 3 (va/512) 7 rfl (by omega) (by omega) (by omega);go_enter Tryz.func163,Tryz.ntmps163;go_wp2_with fail;go_quiet ((go_at_call 127;exact Calls.quiet_of_same (dY 3 7 _ (by omega))));go_wp2_with fail;go_ret;exact ⟨dB H.out,nq,rfl⟩
 ·have H:Hid (bits .and .u64 (va/4096) 7=dA va 2):=ew 3 (va/4096) 7 rfl (by omega) (by omega) (by omega);go_enter Tryz.func163,Tryz.ntmps163;go_wp2_with fail;go_quiet ((go_at_call 127;exact Calls.quiet_of_same (dY 3 7 _ (by omega))));go_wp2_with fail;go_ret;exact ⟨dB H.out,nq,rfl⟩
end Go.Proofs.YtaoaifmkhbgaiaaGreat

namespace Go.Proofs.YtaoaifmkhbgaiaaGreat
open Go.RowKit
set_option linter.unusedVariables false
theorem uy (n level va:Int) (w:World) (hv0:0≤va) (hv1:va≤18446744073709551615) (hl:level=0∨level=1∨level=2) (hn0:0≤n) (hn1:n<17592186044416):
 Calls Tryz.prog 156 #[.int .u64 n,.int .i64 level,.int .u64 va] w fun e w'=>e=.returned (.int .u64 (64*n+8*dA va level))∧∃q,w'=w.drewN q:=by
 obtain ⟨ix,hix⟩:∃ix,dA va level=ix:=⟨_,rfl⟩;have hib:=oA va level;have HI:Hid (dA va level=ix):=hix;have HE:Hid (n*64+ix*8=64*n+8*ix):=show _=_ by omega
 rw [hix] at hib ⊢;clear hix;go_enter Tryz.func156,Tryz.ntmps156;go_wp2_with fail;refine (zM va level w hv0 hv1 hl).mono ?_;rintro e w' ⟨rfl,nq,rfl⟩;rw [HI.out];go_wp2_with fail;go_ret;exact ⟨dB HE.out,nq,rfl⟩
theorem wb (a:Option Addr) (len cap:Nat) (addr:Int) (w:World) (hl:len≤1048576) (h0:0≤addr) (h1:addr≤18446744073709551615) (hg:dM len addr 8=false):
 Calls Tryz.prog 185 #[.slice a len cap,.int .u64 addr] w fun e w'=>e=.returned (.tuple #[.int .u64 0,.bool false])∧w'=w:=by
 have HG:Hid (dM len addr 8=false):=hg;clear hg;go_enter Tryz.func185,Tryz.ntmps185;go_wp2_with (go_at_call 187;refine (sZ _ _ _ _ _ _ hl h0 h1 (by omega)).mono ?_;rintro e w' ⟨rfl,rfl⟩;rw [HG.out]);exact bodyPost_ret (v:=.tuple #[.int .u64 0,.bool false]) (by simp [results,Tryz.results185,go_sem]) rfl ⟨rfl,rfl⟩
theorem xu (a:Option Addr) (len cap:Nat) (zs:List Int) (addr:Int) (w:World) (h:Byt w a len zs) (hl:len≤1048576) (h0:0≤addr) (h1:addr≤18446744073709551615) (hg:dM len addr 8=true):
 Calls Tryz.prog 185 #[.slice a len cap,.int .u64 addr] w fun e w'=>e=.returned (.tuple #[.int .u64 (rdV zs addr 8),.bool true])∧w'=w:=by
 have hz:=h.1;have hv:rdV zs addr 8=num ((zs.drop addr.toNat).take 8):=by simp [rdV,hz,hg]
 rw [hv];have hg':=hg;simp only [dM,decide_eq_true_eq] at hg';obtain ⟨hn,hn1,hn2⟩:=hg';obtain ⟨k,rfl⟩:=Int.eq_ofNat_of_zero_le h0;obtain ⟨b,off,rfl⟩:∃b off,a=some ⟨b,off,none⟩:=by
  rcases h.2.2 with hy | ⟨b,off,rfl,hb,hcl⟩
  ·omega
  ·exact ⟨b,off,rfl⟩
 have HG:Hid (dM len k 8=true):=hg;have HC:Cel w b off len zs:=Cel.of_byt h;clear hg hv h;rw [Int.toNat_natCast];go_enter Tryz.func185,Tryz.ntmps185;go_wp2_with (first
  | (go_at_call 187;refine (sZ _ _ _ _ _ _ hl h0 h1 (by omega)).mono ?_;rintro e w' ⟨rfl,rfl⟩;rw [HG.out])
  | (go_at_call 188;refine (yp b off len cap k zs _ HC (by omega) hl).mono ?_;rintro e w' ⟨rfl,rfl⟩))
 exact bodyPost_ret (v:=.tuple #[.int .u64 (num ((zs.drop k).take 8)),.bool true]) (by simp [results,Tryz.results185,go_sem]) rfl ⟨rfl,rfl⟩
end Go.Proofs.YtaoaifmkhbgaiaaGreat

namespace Go.Proofs.YtaoaifmkhbgaiaaGreat
open Go.RowKit
set_option linter.unusedVariables false
theorem Bh (w:World):(Instr.typeAssert (.iface 167 (.agg #[])) 117 167 true).run Tryz.prog w=.ok (.tuple #[.agg #[],.bool true]) w:=by kernel_rfl
theorem Bi (w:World):(Instr.typeAssert (.iface 176 (.agg #[])) 117 167 true).run Tryz.prog w=.ok (.tuple #[.agg #[],.bool false]) w:=by kernel_rfl
theorem Bj (w:World):(Instr.typeAssert (.iface 176 (.agg #[])) 117 176 true).run Tryz.prog w=.ok (.tuple #[.agg #[],.bool true]) w:=by kernel_rfl
theorem Bk (w:World):(Instr.typeAssert .nilIface 117 167 true).run Tryz.prog w=.ok (.tuple #[.agg #[],.bool false]) w:=by kernel_rfl
theorem Bl (w:World):(Instr.typeAssert .nilIface 117 176 true).run Tryz.prog w=.ok (.tuple #[.agg #[],.bool false]) w:=by kernel_rfl
def cX (code:Int):Value:=if code=1 then .nilIface else if code=2 then .iface 167 (.agg #[]) else .iface 176 (.agg #[])
theorem uh (kind:Int) (w:World):Calls Tryz.prog 107 #[.int .i64 kind] w fun e w'=>e=.returned (.int .i64 (eD kind))∧w'=w:=by
 by_cases k0:kind=0
 ·subst k0;go_enter Tryz.func107,Tryz.ntmps107;go_wp2_with fail;go_ret;exact ⟨rfl,rfl⟩
 have k0':(kind == 0)=false:=by simpa using k0
 by_cases k1:kind=1
 ·subst k1;go_enter Tryz.func107,Tryz.ntmps107;go_wp2_with fail;go_ret;exact ⟨rfl,rfl⟩
 have k1':(kind == 1)=false:=by simpa using k1
 have HE:Hid (eD kind=15):=by show _=_;rw [eD,if_neg k0,if_neg k1]
 clear k0 k1;go_enter Tryz.func107,Tryz.ntmps107;go_wp2_with fail;go_ret;exact ⟨cA HE.out.symm,rfl⟩
theorem rC (kind:Int) (w:World):Calls Tryz.prog 108 #[.int .i64 kind] w fun e w'=>e=.returned (.int .i64 (cQ kind))∧w'=w:=by
 by_cases k0:kind=0
 ·subst k0;go_enter Tryz.func108,Tryz.ntmps108;go_wp2_with fail;go_ret;exact ⟨rfl,rfl⟩
 have k0':(kind == 0)=false:=by simpa using k0
 by_cases k1:kind=1
 ·subst k1;go_enter Tryz.func108,Tryz.ntmps108;go_wp2_with fail;go_ret;exact ⟨rfl,rfl⟩
 have k1':(kind == 1)=false:=by simpa using k1
 have HE:Hid (cQ kind=7):=by show _=_;rw [cQ,if_neg k0,if_neg k1]
 clear k0 k1;go_enter Tryz.func108,Tryz.ntmps108;go_wp2_with fail;go_ret;exact ⟨cA HE.out.symm,rfl⟩
theorem rD (c kind:Int) (w:World) (hc:c=1∨c=2∨c=3):
 Calls Tryz.prog 60 #[cX c,.int .i64 kind] w fun e w'=>e=.returned (.int .i64 (if c=1 then 0 else if c=2 then eD kind else cQ kind))∧w'=w:=by
 have t1:=Bh;have t2:=Bi;have t3:=Bj;have t4:=Bk;have t5:=Bl;rcases hc with rfl | rfl | rfl;all_goals
  simp only [cX,if_pos,Int.reduceEq];go_enter Tryz.func60,Tryz.ntmps60;go_wp2_with (first
   | (go_at_call 107;refine (uh kind _).mono ?_;rintro e w' ⟨rfl,rfl⟩)
   | (go_at_call 108;refine (rC kind _).mono ?_;rintro e w' ⟨rfl,rfl⟩))
  go_ret;exact ⟨rfl,rfl⟩
end Go.Proofs.YtaoaifmkhbgaiaaGreat

namespace Go.Proofs.YtaoaifmkhbgaiaaGreat
open Go.RowKit
set_option linter.unusedVariables false
theorem ao {v:World} {p:Nat} {T:TypeId} {a b c:Value} (h:v.heap[p]?=some (.cells #[a,b,c] T (0,0))):
 (v.cell? ⟨p,0,none⟩=some a∧v.cell? ⟨p,1,none⟩=some b∧v.cell? ⟨p,2,none⟩=some c)∧v.frozen? ⟨p,0,none⟩=false∧v.frozen? ⟨p,1,none⟩=false∧v.frozen? ⟨p,2,none⟩=false:=by
 simp [World.cell?,World.frozen?,h]
theorem AE {v:World} {p:Nat} {T:TypeId} {a b c u:Value} (h:v.heap[p]?=some (.cells #[a,b,c] T (0,0))):(v.setCell ⟨p,0,none⟩ u).heap[p]?=some (.cells #[u,b,c] T (0,0)):=by
 simp [World.setCell,Array.getElem?_modify,h]
theorem AF {v:World} {p:Nat} {T:TypeId} {a b c u:Value} (h:v.heap[p]?=some (.cells #[a,b,c] T (0,0))):(v.setCell ⟨p,2,none⟩ u).heap[p]?=some (.cells #[a,b,u] T (0,0)):=by
 simp [World.setCell,Array.getElem?_modify,h]
theorem gb3 (v:World) (g:Nat) (x y z:Value):v.grownBy (((v.setCell ⟨g,0,none⟩ x).setCell ⟨g,1,none⟩ y).setCell ⟨g,2,none⟩ z) (some g):=
 ax (ax (ax (aE v (some g)) 0 x) 1 y) 2 z
theorem eg {B:Nat} {a w:World} {g:Nat} (h:Below B a w) (hg:B≤g) (x y z:Value):Below B a (((w.setCell ⟨g,0,none⟩ x).setCell ⟨g,1,none⟩ y).setCell ⟨g,2,none⟩ z):=
 ((h.setCell (p:=⟨g,0,none⟩) hg x).setCell (p:=⟨g,1,none⟩) hg y).setCell (p:=⟨g,2,none⟩) hg z
theorem aT {e:TypeId} {size:Nat} {w:World} {base base' n:Nat} {v:Value} {cs:List Value} (h:w.ownsRow base e size v n cs) (hb:base'≤base):w.ownsRow base' e size v n cs:=by
 obtain ⟨h1,h2⟩:=h;refine ⟨h1,?_⟩;rcases h2 with h2 | ⟨g,cap,cur,h2,hb',r⟩
 ·exact .inl h2
 ·exact .inr ⟨g,cap,cur,h2,by omega,r⟩
theorem bZ {e:TypeId} {size:Nat} {w w':World} {base n r:Nat} {v:Value} {cs:List Value} (h:w.ownsRow base e size v n cs) (hg:w.grownBy w' (some r)) (hr:r<base):w'.ownsRow base e size v n cs:=by
 refine h.kept hg ?_;rcases h.2 with ⟨rfl,_⟩ | ⟨g,cap,cur,rfl,hb',_⟩
 ·exact .inl rfl
 ·refine .inr ?_;simp [Value.ownBlock];omega
theorem aj {e:TypeId} {size:Nat} {w w':World} {base n:Nat} {v:Value} {cs:List Value} (h:w.ownsRow base e size v n cs) (hb:Below w.heap.size w w'):w'.ownsRow base e size v n cs:=by
 obtain ⟨h1,h2⟩:=h;refine ⟨h1,?_⟩;rcases h2 with h2 | ⟨g,cap,cur,h2,hb',hg,r⟩
 ·exact .inl h2
 ·refine .inr ⟨g,cap,cur,h2,hb',?_,r⟩;exact ab hg hb (Array.getElem?_eq_some_iff.1 hg).1
theorem qw {P:Program} (w:World) {o:Oper} {a:Act} {K:Act→World→Prop} {Q:Exit→Act→World→Prop} (s x:Operand) (t:TypeId)
 (ho:o.op=.call { callee:=.builtin .append,args:=#[s,x],argTypes:=#[t,t] }) (e:TypeId) (ht:P.underlying t=some (.slice e)) (z:Value) (size bytes:Nat)
 (hi:(P.info? e).map (fun i=>(i.zero,i.size,i.bytes))=some (some z,size,bytes)) (hzs:z.cells.size=size) (hsz:0<size)
 (base n:Nat) (v:Value) (cs:List Value) (hs:a.eval s=v) (hown:w.ownsRow base e size v n cs)
 (b off m c:Nat) (ys:List Value) (hx:a.eval x=.slice (some ⟨b,off,none⟩) m c) (hm:0<m) (hy:RowC w (some ⟨b,off,none⟩) m size ys) (h1:∀u∈ys,u.oneCell'=true)
 (hbd:(n+m)*bytes≤140737488355328) (hbd':n+m≤9223372036854775807)
 (hbw:base≤w.heap.size) (B:Nat) (W:World) (hb:Below B W w) (hB:B≤base)
 (h:∀g' cap' w',w'.ownsRow base e size (.slice (some ⟨g',0,none⟩) (n+m) cap') (n+m) (cs++ys)→Below B W w'→K (a.put o.dst (.slice (some ⟨g',0,none⟩) (n+m) cap')) w'):o.wp P a w K Q:=by
 obtain ⟨i0,hi,hz0,hz1,hz2⟩:=info_parts hi;refine wp_append_own w s x t ho base e i0 z size bytes ht hi hz0 hz1 hz2 hzs hsz v n _ hs hown ⟨b,off,none⟩ m c ys hx hy.1 (qM hy) h1 (by unfold maxLen;omega) hbd (by omega) ?_;intro v' w' h1 h2 h3;have hbl:Below B W w':=hb.grown h2 (by omega) (fun k hk=>by have:=(hown.lt k hk).1;omega);rcases h1.2 with ⟨e1,e2⟩ | ⟨g,cap,cur,e1,r⟩
 ·omega
 ·subst e1;exact h g cap w' h1 hbl
theorem oX {P:Program} (w:World) {ops:Array Oper} {rest:List Oper} {o:Oper} {a:Act} {Q:Exit→Act→World→Prop} (hgd:o.guard=none) (s x:Operand) (t:TypeId)
 (ho:o.op=.call { callee:=.builtin .append,args:=#[s,x],argTypes:=#[t,t] }) (e:TypeId) (ht:P.underlying t=some (.slice e)) (z:Value) (size bytes:Nat)
 (hi:(P.info? e).map (fun i=>(i.zero,i.size,i.bytes))=some (some z,size,bytes)) (hzs:z.cells.size=size) (hsz:0<size)
 (base n:Nat) (v:Value) (cs:List Value) (hs:a.eval s=v) (hown:w.ownsRow base e size v n cs)
 (b off m c:Nat) (ys:List Value) (hx:a.eval x=.slice (some ⟨b,off,none⟩) m c) (hm:0<m) (hy:RowC w (some ⟨b,off,none⟩) m size ys) (h1:∀u∈ys,u.oneCell'=true)
 (hbd:(n+m)*bytes≤140737488355328) (hbd':n+m≤9223372036854775807)
 (hbw:base≤w.heap.size) (B:Nat) (W:World) (hb:Below B W w) (hB:B≤base)
 (h:∀g' cap' w',w'.ownsRow base e size (.slice (some ⟨g',0,none⟩) (n+m) cap') (n+m) (cs++ys)→Below B W w'→wpList P ops Q rest (a.put o.dst (.slice (some ⟨g',0,none⟩) (n+m) cap')) w'):wpList P ops Q (o::rest) a w:=
 wpList_plain hgd fun _ hK=>qw w s x t ho e ht z size bytes hi hzs hsz base n v cs hs hown b off m c ys hx hm hy h1 hbd hbd' hbw B W hb hB fun g' cap' w' h2 h3=>hK _ _ (h g' cap' w' h2 h3)
theorem jR {e:TypeId} {size:Nat} {w:World} {base n:Nat} {v:Value} {cs:List Value} (h:w.ownsRow base e size v n cs):w.drew.ownsRow base e size v n cs:=h
def CurAt (e:TypeId) (w:World) (g m:Nat) (cs:List Value):Prop:=cs.length=m∧∃cur,w.heap[g]?=some (.cells cur e (0,0))∧cur.toList.take m=cs
theorem CurAt.lt {e:TypeId} {w:World} {g m:Nat} {cs:List Value} (h:CurAt e w g m cs):g<w.heap.size:=by
 obtain ⟨_,cur,h2,_⟩:=h;exact (Array.getElem?_eq_some_iff.1 h2).1
theorem CurAt.cell {e:TypeId} {w:World} {g m:Nat} {cs:List Value} (h:CurAt e w g m cs) (j:Nat) (u:Value) (hj:cs[j]?=some u):w.cell? ⟨g,j,none⟩=some u:=by
 obtain ⟨h1,cur,h2,h3⟩:=h;subst h3;rw [List.getElem?_take] at hj;split at hj
 ·simp only [World.cell?,h2];simpa using hj
 ·cases hj
theorem CurAt.free {e:TypeId} {w:World} {g m:Nat} {cs:List Value} (h:CurAt e w g m cs) (j:Nat):w.frozen? ⟨g,j,none⟩=false:=by
 obtain ⟨h1,cur,h2,h3⟩:=h;simp [World.frozen?,h2]
theorem CurAt.store {e:TypeId} {w:World} {g m:Nat} {cs:List Value} (h:CurAt e w g m cs) (j:Nat) (u:Value):CurAt e (w.setCell ⟨g,j,none⟩ u) g m (cs.set j u):=by
 obtain ⟨h1,cur,h2,h3⟩:=h;refine ⟨by simpa using h1,cur.setIfInBounds j u,by simp [World.setCell,Array.getElem?_modify,h2],?_⟩;subst h3;rw [Array.toList_setIfInBounds,List.take_set]
theorem CurAt.gb {e:TypeId} {w w':World} {g m r:Nat} {cs:List Value} (h:CurAt e w g m cs) (hg:w.grownBy w' (some r)) (hne:g≠r):CurAt e w' g m cs:=by
 obtain ⟨h1,cur,h2,h3⟩:=h;exact ⟨h1,cur,av h2 hg hne,h3⟩
theorem CurAt.of_own {e:TypeId} {size:Nat} {w:World} {base g n cap:Nat} {cs:List Value} (h:w.ownsRow base e size (.slice (some ⟨g,0,none⟩) n cap) n cs):CurAt e w g (n*size) cs∧base≤g:=by
 obtain ⟨h1,h2⟩:=h;rcases h2 with ⟨h2,_⟩ | ⟨g',cap',cur,h2,hb,hg,_,_,_,ht⟩
 ·cases h2
 ·cases h2;exact ⟨⟨h1,cur,hg,ht⟩,hb⟩
theorem en {e:TypeId} {size:Nat} {w:World} {base n:Nat} {a:Option Addr} {cap:Nat} {cs:List Value} (h:w.ownsRow base e size (.slice a n cap) n cs):RowC w a n size cs:=by
 cases a with
 | none=>
  obtain ⟨h1,h2⟩:=h;rcases h2 with ⟨_,h2⟩ | ⟨g',cap',cur,h2,_⟩
  ·subst h2;exact ⟨h1,.inl rfl⟩
  ·cases h2
 | some q=>
  have hq:q=⟨q.block,0,none⟩:=by
   obtain ⟨h1,h2⟩:=h;rcases h2 with ⟨h2,_⟩ | ⟨g',cap',cur,h2,_⟩
   ·cases h2
   ·cases h2;rfl
  rw [hq] at h ⊢;have:=CurAt.of_own h;refine ⟨h.1,.inr ⟨q.block,0,rfl,this.1.lt,fun i u hu=>?_⟩⟩;rw [Nat.zero_add];exact this.1.cell i u hu
theorem bI {e:TypeId} {size:Nat} {w:World} {base n cap:Nat} {q:Addr} {cs:List Value} (h:w.ownsRow base e size (.slice (some q) n cap) n cs):q=⟨q.block,0,none⟩∧base≤q.block∧q.block<w.heap.size:=by
 rcases h.2 with ⟨h2,_⟩ | ⟨g',cap',cur,h2,hb,hg,_⟩
 ·cases h2
 ·cases h2;exact ⟨rfl,hb,(Array.getElem?_eq_some_iff.1 hg).1⟩
theorem fs {a b c:World} {r:Option Nat} (h:a.grownBy b r) (k:b.grownBy c r):a.grownBy c r:=
 ⟨k.os.trans h.os,k.tape.trans h.tape,k.output.trans h.output,Nat.le_trans h.size k.size,fun i hi hn=>(k.block i (Nat.lt_of_lt_of_le hi h.size) hn).trans (h.block i hi hn)⟩
theorem ae {w w':World} {b:Nat} {o:Obj} (h:Hid (w.heap[b]?=some o)) (n:Below w.heap.size w w'):Hid (w'.heap[b]?=some o):=ab h.out n (Array.getElem?_eq_some_iff.1 h.out).1
end Go.Proofs.YtaoaifmkhbgaiaaGreat
