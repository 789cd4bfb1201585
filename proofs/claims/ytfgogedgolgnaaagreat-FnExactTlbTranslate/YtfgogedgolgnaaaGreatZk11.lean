import Derived.Test.YtfgogedgolgnaaaGreatZk10
namespace Go.Proofs.YtfgogedgolgnaaaGreat
open Go.RowKit
set_option linter.unusedVariables false
set_option maxHeartbeats 6400000
set_option maxRecDepth 20000
theorem bp (n m:Int) (w:World) (h:(n=0∧m=0)∨(n=3∧m=7)∨(n=6∧m=63)∨(n=9∧m=511)∨(n=12∧m=4095)∨(n=44∧m=17592186044415)∨(n=50∧m=1125899906842623)∨(n=15∧m=32767)∨(n=16∧m=65535)):
 Calls Tryz.prog 84 #[.int .i64 n] w fun e w'=>e=.returned (.int .u64 m)∧w'=w:=by
 rcases h with ⟨rfl,rfl⟩ | ⟨rfl,rfl⟩ | ⟨rfl,rfl⟩ | ⟨rfl,rfl⟩ | ⟨rfl,rfl⟩ | ⟨rfl,rfl⟩ | ⟨rfl,rfl⟩ | ⟨rfl,rfl⟩ | ⟨rfl,rfl⟩;all_goals
  go_enter Tryz.func84,Tryz.ntmps84;go_wp2_with fail;go_ret;exact ⟨rfl,rfl⟩
theorem bi (x m:Int) (w:World):
 Calls Tryz.prog 100 #[.int .u64 x,.int .u64 m] w fun e w'=>e=.returned (.bool (dJ x m))∧w'=w:=by
 go_enter Tryz.func100,Tryz.ntmps100;go_wp2_with fail;go_ret;exact ⟨rfl,rfl⟩
theorem dE (x:Int) (w:World) (h0:0<=x) (h1:x<=18446744073709551615):
 Calls Tryz.prog 63 #[.int .u64 x] w fun e w'=>e=.returned (.bool (bH x))∧w'=w:=by
 have hm:x/16384%1125899906842624=x/16384:=Int.emod_eq_of_lt (Int.ediv_nonneg h0 (by omega)) (by omega);rw [bH,hm];clear hm;by_cases ht:x/16384=0
 ·have ht':(x/16384 == 0)=true:=by simp [ht]
  clear ht;go_enter Tryz.func63,Tryz.ntmps63;go_wp2_with fail;go_ret;exact ⟨by simp [ht'],rfl⟩
 ·have ht':(x/16384 == 0)=false:=by simpa using ht
  clear ht;go_enter Tryz.func63,Tryz.ntmps63;go_wp2_with (go_at_call 84;refine (bp 50 1125899906842623 _ (by omega)).mono ?_;rintro e w' ⟨rfl,rfl⟩);go_ret;exact ⟨by simp [ht'],rfl⟩
theorem iC (x:Int) (w:World) (h0:0<=x) (h1:x<=18446744073709551615):
 Calls Tryz.prog 113 #[.int .u64 x] w fun e w'=>e=.returned (.int .u64 (bj x))∧w'=w:=by
 have H:Hid (bits .and .u64 (x/1024) 17592186044415=bj x):=bS 44 (x/1024) 17592186044415 rfl (by omega) (by omega) (by omega);go_enter Tryz.func113,Tryz.ntmps113;go_wp2_with (go_at_call 84;refine (bp 44 17592186044415 _ (by omega)).mono ?_;rintro e w' ⟨rfl,rfl⟩);go_ret;exact ⟨br H.out,rfl⟩
theorem iD (x:Int) (w:World) (h0:0<=x) (h1:x<=18446744073709551615):
 Calls Tryz.prog 119 #[.int .u64 x] w fun e w'=>e=.returned (.int .u64 (x/18014398509481984%1024))∧w'=w:=by
 have H:Hid (x/18014398509481984=x/18014398509481984%1024):=show _=_ by omega
 go_enter Tryz.func119,Tryz.ntmps119;go_wp2_with fail;go_ret;exact ⟨br H.out,rfl⟩
def fR (x:Int):Bool:=aI x 1 && (x/18014398509481984%1024 == 0) && !(aI x 4 && !aI x 2)
theorem dy (x:Int) (w:World) (h0:0<=x) (h1:x<=18446744073709551615):
 Calls Tryz.prog 117 #[.int .u64 x] w fun e w'=>e=.returned (.bool (fR x))∧w'=w:=by
 have HV:Hid (dJ x 1=aI x 1):=bs 0 x 1 rfl (by omega) h0 h1;have HR:Hid (dJ x 2=aI x 2):=bs 1 x 2 rfl (by omega) h0 h1;have HW:Hid (dJ x 4=aI x 4):=bs 2 x 4 rfl (by omega) h0 h1;cases hw:aI x 4 <;> cases hr:aI x 2 <;> cases hv:aI x 1;all_goals
  go_enter Tryz.func117,Tryz.ntmps117;go_wp2_with (first
   | (go_at_call 100;refine (bi x _ _).mono ?_;rintro e w' ⟨rfl,rfl⟩;first | rw [HW.out,hw] | rw [HR.out,hr] | rw [HV.out,hv])
   | (go_at_call 119;refine (iD x _ h0 h1).mono ?_;rintro e w' ⟨rfl,rfl⟩))
  all_goals
   go_ret;exact ⟨ah (by simp [fR,hw,hr,hv];try assumption),rfl⟩
theorem fS (x level:Int) (w:World) (h0:0<=x) (h1:x<=18446744073709551615) (hl:level=0∨level=1∨level=2):
 Calls Tryz.prog 118 #[.int .u64 x,.int .i64 level] w fun e w'=>e=.returned (.bool (bj x%cO level == 0))∧w'=w:=by
 have hpp:0<=bj x∧bj x<17592186044416:=⟨Int.emod_nonneg _ (by omega),Int.emod_lt_of_pos _ (by omega)⟩;have HP:∀w,Hid (Calls Tryz.prog 113 #[.int .u64 x] w fun e w'=>e=.returned (.int .u64 (bj x))∧w'=w):=fun w=>iC x w h0 h1;generalize bj x=p at *;rcases hl with rfl | rfl | rfl
 ·have H:Hid ((bits .and .u64 p 0 == 0)=(p%cO 0 == 0)):=by
   show _=_;rw [bS 0 p 0 rfl (by omega) hpp.1 (by omega)];rfl
  go_enter Tryz.func118,Tryz.ntmps118;go_wp2_with (first
   | (go_at_call 113;refine ((HP _).out).mono ?_;rintro e w' ⟨rfl,rfl⟩)
   | (go_at_call 84;refine (bp 0 0 _ (by omega)).mono ?_;rintro e w' ⟨rfl,rfl⟩))
  go_ret;exact ⟨ah H.out,rfl⟩
 ·have H:Hid ((bits .and .u64 p 7 == 0)=(p%cO 1 == 0)):=by
   show _=_;rw [bS 3 p 7 rfl (by omega) hpp.1 (by omega)];rfl
  go_enter Tryz.func118,Tryz.ntmps118;go_wp2_with (first
   | (go_at_call 113;refine ((HP _).out).mono ?_;rintro e w' ⟨rfl,rfl⟩)
   | (go_at_call 84;refine (bp 3 7 _ (by omega)).mono ?_;rintro e w' ⟨rfl,rfl⟩))
  go_ret;exact ⟨ah H.out,rfl⟩
 ·have H:Hid ((bits .and .u64 p 63 == 0)=(p%cO 2 == 0)):=by
   show _=_;rw [bS 6 p 63 rfl (by omega) hpp.1 (by omega)];rfl
  go_enter Tryz.func118,Tryz.ntmps118;go_wp2_with (first
   | (go_at_call 113;refine ((HP _).out).mono ?_;rintro e w' ⟨rfl,rfl⟩)
   | (go_at_call 84;refine (bp 6 63 _ (by omega)).mono ?_;rintro e w' ⟨rfl,rfl⟩))
  go_ret;exact ⟨ah H.out,rfl⟩
theorem ba (l:Int) (w:World):
 Calls Tryz.prog 98 #[.int .i64 l] w fun e w'=>e=.returned (.bool (decide (0<=l∧l<=2)))∧w'=w:=by
 by_cases h:0<=l
 ·go_enter Tryz.func98,Tryz.ntmps98;go_wp2_with fail;go_ret;exact ⟨ah (by simp [h]),rfl⟩
 ·go_enter Tryz.func98,Tryz.ntmps98;go_wp2_with fail;go_ret;exact ⟨ah (by simp;omega),rfl⟩
theorem eS (x level:Int) (w:World) (h0:0<=x) (h1:x<=18446744073709551615):
 Calls Tryz.prog 115 #[.int .u64 x,.int .i64 level] w fun e w'=>e=.returned (.int .i64 (aH x level))∧w'=w:=by
 by_cases hlev:0<=level∧level<=2
 ·have hk:decide (0<=level∧level<=2)=true:=by simpa using hlev
  have HK:Hid (decide (0<=level∧level<=2)=true):=hk;have hl:level=0∨level=1∨level=2:=by omega
  clear hk hlev;have HR:Hid (dJ x 14=(aI x 2 || aI x 4 || aI x 8)):=kU x h0 h1;have HU:Hid (dJ x 208=(aI x 16 || aI x 64 || aI x 128)):=kV x h0 h1;cases hs:fR x
  ·have HE:Hid (aH x level=0):=by
    show _=_;simp only [aH];rw [if_pos];simp only [fR] at hs;cases hv:aI x 1
    ·simp
    ·rw [hv] at hs;by_cases hb:0<x/18014398509481984%1024
     ·simp [hb]
     ·have hb':x/18014398509481984%1024=0:=by omega
      rw [hb'] at hs |-;simp at hs;simp [hs]
   go_enter Tryz.func115,Tryz.ntmps115;go_wp2_with (first
    | (go_at_call 98;refine (ba level _).mono ?_;rintro e w' ⟨rfl,rfl⟩;rw [HK.out])
    | (go_at_call 117;refine (dy x _ h0 h1).mono ?_;rintro e w' ⟨rfl,rfl⟩;rw [hs]))
   go_ret;exact ⟨aU HE.out.symm,rfl⟩
  ·have hn:¬(level<0∨2<level∨aI x 1=false∨0<x/18014398509481984%1024∨(aI x 4=true∧aI x 2=false)):=by
    simp only [fR,Bool.and_eq_true,beq_iff_eq,Bool.not_eq_true',Bool.and_eq_false_iff,Bool.not_eq_false'] at hs;obtain ⟨⟨a1,a2⟩,a3⟩:=hs;rw [a1,a2];rcases a3 with a3 | a3
    ·simp [a3];omega
    ·simp [a3];omega
   have HE:Hid (aH x level=if aI x 2=false∧aI x 4=false∧aI x 8=false then (if level=0∨aI x 16=true∨aI x 64=true∨aI x 128=true then 0 else 1) else if 0<bj x%cO level then 0 else 2):=by
    show _=_;rw [aH,if_neg hn]
   clear hn;cases hr:(aI x 2 || aI x 4 || aI x 8)
   ·simp only [Bool.or_eq_false_iff] at hr;have HE2:Hid (aH x level=if level=0∨aI x 16=true∨aI x 64=true∨aI x 128=true then 0 else 1):=by
     show _=_;rw [HE.out,if_pos ⟨hr.1.1,hr.1.2,hr.2⟩]
    clear HE;have HR':Hid (dJ x 14=false):=by show _=_;rw [HR.out,hr.1.1,hr.1.2,hr.2];rfl
    clear HR hr;by_cases hz:level=0
    ·subst hz;go_enter Tryz.func115,Tryz.ntmps115;go_wp2_with (first
      | (go_at_call 98;refine (ba 0 _).mono ?_;rintro e w' ⟨rfl,rfl⟩;rw [HK.out])
      | (go_at_call 117;refine (dy x _ h0 h1).mono ?_;rintro e w' ⟨rfl,rfl⟩;rw [hs])
      | (go_at_call 100;refine (bi x _ _).mono ?_;rintro e w' ⟨rfl,rfl⟩;rw [HR'.out]))
     go_ret;exact ⟨aU (by rw [HE2.out];simp),rfl⟩
    ·have hz':(level == 0)=false:=by simpa using hz
     cases hu:(aI x 16 || aI x 64 || aI x 128)
     ·have HE3:Hid (aH x level=1):=by
       show _=_;simp only [Bool.or_eq_false_iff] at hu;rw [HE2.out,hu.1.1,hu.1.2,hu.2];simp [hz]
      go_enter Tryz.func115,Tryz.ntmps115;go_wp2_with (first
       | (go_at_call 98;refine (ba level _).mono ?_;rintro e w' ⟨rfl,rfl⟩;rw [HK.out])
       | (go_at_call 117;refine (dy x _ h0 h1).mono ?_;rintro e w' ⟨rfl,rfl⟩;rw [hs])
       | (go_at_call 100;refine (bi x _ _).mono ?_;rintro e w' ⟨rfl,rfl⟩;first | rw [HR'.out] | rw [HU.out,hu]))
      go_ret;exact ⟨aU HE3.out.symm,rfl⟩
     ·have HE3:Hid (aH x level=0):=by
       show _=_;simp only [Bool.or_eq_true] at hu;rw [HE2.out,if_pos];rcases hu with (hu | hu) | hu <;> simp [hu]
      go_enter Tryz.func115,Tryz.ntmps115;go_wp2_with (first
       | (go_at_call 98;refine (ba level _).mono ?_;rintro e w' ⟨rfl,rfl⟩;rw [HK.out])
       | (go_at_call 117;refine (dy x _ h0 h1).mono ?_;rintro e w' ⟨rfl,rfl⟩;rw [hs])
       | (go_at_call 100;refine (bi x _ _).mono ?_;rintro e w' ⟨rfl,rfl⟩;first | rw [HR'.out] | rw [HU.out,hu]))
      go_ret;exact ⟨aU HE3.out.symm,rfl⟩
   ·have HR':Hid (dJ x 14=true):=by show _=_;rw [HR.out,hr]
    have HE2:Hid (aH x level=if 0<bj x%cO level then 0 else 2):=by
     show _=_;rw [HE.out,if_neg];rintro ⟨q1,q2,q3⟩;rw [q1,q2,q3] at hr;cases hr
    clear HE HR hr;have hnn:0<=bj x%cO level:=by
     apply Int.emod_nonneg;rcases hl with rfl | rfl | rfl <;> decide
    cases ha:(bj x%cO level == 0)
    ·have HE3:Hid (aH x level=0):=by
      show _=_;have:bj x%cO level≠0:=by simpa using ha
      rw [HE2.out,if_pos (by omega)]
     clear hnn;go_enter Tryz.func115,Tryz.ntmps115;go_wp2_with (first
      | (go_at_call 98;refine (ba level _).mono ?_;rintro e w' ⟨rfl,rfl⟩;rw [HK.out])
      | (go_at_call 117;refine (dy x _ h0 h1).mono ?_;rintro e w' ⟨rfl,rfl⟩;rw [hs])
      | (go_at_call 100;refine (bi x _ _).mono ?_;rintro e w' ⟨rfl,rfl⟩;rw [HR'.out])
      | (go_at_call 118;refine (fS x level _ h0 h1 hl).mono ?_;rintro e w' ⟨rfl,rfl⟩;rw [ha]))
     go_ret;exact ⟨aU HE3.out.symm,rfl⟩
    ·have HE3:Hid (aH x level=2):=by
      show _=_;have:bj x%cO level=0:=by simpa using ha
      rw [HE2.out,if_neg (by omega)]
     clear hnn;go_enter Tryz.func115,Tryz.ntmps115;go_wp2_with (first
      | (go_at_call 98;refine (ba level _).mono ?_;rintro e w' ⟨rfl,rfl⟩;rw [HK.out])
      | (go_at_call 117;refine (dy x _ h0 h1).mono ?_;rintro e w' ⟨rfl,rfl⟩;rw [hs])
      | (go_at_call 100;refine (bi x _ _).mono ?_;rintro e w' ⟨rfl,rfl⟩;rw [HR'.out])
      | (go_at_call 118;refine (fS x level _ h0 h1 hl).mono ?_;rintro e w' ⟨rfl,rfl⟩;rw [ha]))
     go_ret;exact ⟨aU HE3.out.symm,rfl⟩
 ·have HK:Hid (decide (0<=level∧level<=2)=false):=by show _=_;simpa using hlev
  have HE:Hid (aH x level=0):=by
   show _=_;rw [aH,if_pos (by omega)]
  clear hlev;go_enter Tryz.func115,Tryz.ntmps115;go_wp2_with (go_at_call 98;refine (ba level _).mono ?_;rintro e w' ⟨rfl,rfl⟩;rw [HK.out]);go_ret;exact ⟨aU HE.out.symm,rfl⟩
def cl (x kind:Int) (mxr:Bool):Bool:=if kind=0 then aI x 8 else if kind=1 then aI x 2 || (mxr && aI x 8) else if kind=2 then aI x 4 else false
theorem dp (x kind:Int) (mxr:Bool) (w:World) (h0:0<=x) (h1:x<=18446744073709551615):
 Calls Tryz.prog 109 #[.int .u64 x,.int .i64 kind,.bool mxr] w fun e w'=>e=.returned (.bool (cl x kind mxr))∧w'=w:=by
 have HR:Hid (dJ x 2=aI x 2):=bs 1 x 2 rfl (by omega) h0 h1;have HW:Hid (dJ x 4=aI x 4):=bs 2 x 4 rfl (by omega) h0 h1;have HX:Hid (dJ x 8=aI x 8):=bs 3 x 8 rfl (by omega) h0 h1;by_cases k0:kind=0
 ·subst k0;go_enter Tryz.func109,Tryz.ntmps109;go_wp2_with (go_at_call 100;refine (bi x _ _).mono ?_;rintro e w' ⟨rfl,rfl⟩;rw [HX.out]);go_ret;exact ⟨rfl,rfl⟩
 have k0':(kind == 0)=false:=by simpa using k0
 by_cases k1:kind=1
 ·subst k1;cases hr:aI x 2 <;> cases mxr;all_goals
   go_enter Tryz.func109,Tryz.ntmps109;go_wp2_with (go_at_call 100;refine (bi x _ _).mono ?_;rintro e w' ⟨rfl,rfl⟩;first | rw [HR.out,hr] | rw [HX.out]);go_ret;exact ⟨ah (by simp [cl,hr]),rfl⟩
 have k1':(kind == 1)=false:=by simpa using k1
 by_cases k2:kind=2
 ·subst k2;go_enter Tryz.func109,Tryz.ntmps109;go_wp2_with (go_at_call 100;refine (bi x _ _).mono ?_;rintro e w' ⟨rfl,rfl⟩;rw [HW.out]);go_ret;exact ⟨rfl,rfl⟩
 have k2':(kind == 2)=false:=by simpa using k2
 have HE:Hid (cl x kind mxr=false):=by show _=_;rw [cl,if_neg k0,if_neg k1,if_neg k2]
 clear k0 k1 k2;go_enter Tryz.func109,Tryz.ntmps109;go_wp2_with fail;go_ret;exact ⟨ah HE.out.symm,rfl⟩
def cm (x kind mode:Int) (sum:Bool):Bool:=if mode=0 then aI x 16 else if mode=1 then !aI x 16 || (sum && kind != 0) else false
theorem ew (x kind mode:Int) (sum:Bool) (w:World) (h0:0<=x) (h1:x<=18446744073709551615):
 Calls Tryz.prog 110 #[.int .u64 x,.int .i64 kind,.int .i64 mode,.bool sum] w fun e w'=>e=.returned (.bool (cm x kind mode sum))∧w'=w:=by
 have HU:Hid (dJ x 16=aI x 16):=bs 4 x 16 rfl (by omega) h0 h1;by_cases k0:mode=0
 ·subst k0;go_enter Tryz.func110,Tryz.ntmps110;go_wp2_with (go_at_call 100;refine (bi x _ _).mono ?_;rintro e w' ⟨rfl,rfl⟩;rw [HU.out]);go_ret;exact ⟨rfl,rfl⟩
 have k0':(mode == 0)=false:=by simpa using k0
 by_cases k1:mode=1
 ·subst k1;cases hu:aI x 16 <;> cases sum;all_goals
   go_enter Tryz.func110,Tryz.ntmps110;go_wp2_with (go_at_call 100;refine (bi x _ _).mono ?_;rintro e w' ⟨rfl,rfl⟩;rw [HU.out,hu]);all_goals
    go_ret;exact ⟨ah (by simp_all [cm]),rfl⟩
 have k1':(mode == 1)=false:=by simpa using k1
 have HE:Hid (cm x kind mode sum=false):=by show _=_;rw [cm,if_neg k0,if_neg k1]
 clear k0 k1;go_enter Tryz.func110,Tryz.ntmps110;go_wp2_with fail;go_ret;exact ⟨ah HE.out.symm,rfl⟩
def eo (x kind:Int):Bool:=aI x 64 && (kind != 2 || aI x 128)
theorem kH (x kind:Int) (w:World) (h0:0<=x) (h1:x<=18446744073709551615):
 Calls Tryz.prog 111 #[.int .u64 x,.int .i64 kind] w fun e w'=>e=.returned (.bool (eo x kind))∧w'=w:=by
 have HA:Hid (dJ x 64=aI x 64):=bs 6 x 64 rfl (by omega) h0 h1;have HD:Hid (dJ x 128=aI x 128):=bs 7 x 128 rfl (by omega) h0 h1;cases ha:aI x 64
 ·go_enter Tryz.func111,Tryz.ntmps111;go_wp2_with (go_at_call 100;refine (bi x _ _).mono ?_;rintro e w' ⟨rfl,rfl⟩;rw [HA.out,ha]);go_ret;exact ⟨ah (by simp [eo,ha]),rfl⟩
 ·cases hk:(kind != 2)
  ·go_enter Tryz.func111,Tryz.ntmps111;go_wp2_with (go_at_call 100;refine (bi x _ _).mono ?_;rintro e w' ⟨rfl,rfl⟩;first | rw [HA.out,ha] | rw [HD.out]);go_ret;exact ⟨ah (by simp [eo,ha,hk]),rfl⟩
  ·go_enter Tryz.func111,Tryz.ntmps111;go_wp2_with (go_at_call 100;refine (bi x _ _).mono ?_;rintro e w' ⟨rfl,rfl⟩;first | rw [HA.out,ha] | rw [HD.out]);go_ret;exact ⟨ah (by simp [eo,ha,hk]),rfl⟩
theorem jC (x kind mode:Int) (sum mxr:Bool):aY x kind mode sum mxr=(cl x kind mxr && cm x kind mode sum && eo x kind):=by
 simp only [aY,cl,cm,eo];by_cases k0:kind=0
 ·subst k0;simp only [if_pos];cases aI x 8 <;> cases aI x 64 <;> simp <;> split <;> simp
 by_cases k1:kind=1
 ·subst k1;simp only [if_neg k0,if_pos];by_cases m0:mode=0
  ·subst m0;simp
  by_cases m1:mode=1
  ·subst m1;simp
  ·simp [m0,m1]
 by_cases k2:kind=2
 ·subst k2;by_cases m0:mode=0
  ·subst m0;simp;cases aI x 64 <;> cases aI x 128 <;> cases aI x 4 <;> simp
  by_cases m1:mode=1
  ·subst m1;simp;cases aI x 64 <;> cases aI x 128 <;> cases aI x 4 <;> cases aI x 16 <;> cases sum <;> simp
  ·simp [m0,m1]
 ·simp [k0,k1,k2]
theorem ea (x kind mode:Int) (sum mxr:Bool) (w:World) (h0:0<=x) (h1:x<=18446744073709551615):
 Calls Tryz.prog 91 #[.int .u64 x,.int .i64 kind,.int .i64 mode,.bool sum,.bool mxr] w fun e w'=>e=.returned (.bool (aY x kind mode sum mxr))∧w'=w:=by
 rw [jC];cases hk:cl x kind mxr
 ·go_enter Tryz.func91,Tryz.ntmps91;go_wp2_with (first
   | (go_at_call 109;refine (dp x kind mxr _ h0 h1).mono ?_;rintro e w' ⟨rfl,rfl⟩;rw [hk]))
  go_ret;exact ⟨ah (by simp),rfl⟩
 cases hm:cm x kind mode sum
 ·go_enter Tryz.func91,Tryz.ntmps91;go_wp2_with (first
   | (go_at_call 109;refine (dp x kind mxr _ h0 h1).mono ?_;rintro e w' ⟨rfl,rfl⟩;rw [hk])
   | (go_at_call 110;refine (ew x kind mode sum _ h0 h1).mono ?_;rintro e w' ⟨rfl,rfl⟩;rw [hm]))
  go_ret;exact ⟨ah (by simp),rfl⟩
 ·go_enter Tryz.func91,Tryz.ntmps91;go_wp2_with (first
   | (go_at_call 109;refine (dp x kind mxr _ h0 h1).mono ?_;rintro e w' ⟨rfl,rfl⟩;rw [hk])
   | (go_at_call 110;refine (ew x kind mode sum _ h0 h1).mono ?_;rintro e w' ⟨rfl,rfl⟩;rw [hm])
   | (go_at_call 111;refine (kH x kind _ h0 h1).mono ?_;rintro e w' ⟨rfl,rfl⟩))
  go_ret;exact ⟨ah (by simp),rfl⟩
theorem dL (level m:Int) (w:World) (h:(level=0∧m=63)∨(level=1∧m=511)∨(level=2∧m=4095)):
 Calls Tryz.prog 112 #[.int .i64 level] w fun e w'=>e=.returned (.int .u64 m)∧w'=w:=by
 rcases h with ⟨rfl,rfl⟩ | ⟨rfl,rfl⟩ | ⟨rfl,rfl⟩
 ·go_enter Tryz.func112,Tryz.ntmps112;go_wp2_with (go_at_call 84;refine (bp 6 63 _ (by omega)).mono ?_;rintro e w' ⟨rfl,rfl⟩);go_ret;exact ⟨rfl,rfl⟩
 ·go_enter Tryz.func112,Tryz.ntmps112;go_wp2_with (go_at_call 84;refine (bp 9 511 _ (by omega)).mono ?_;rintro e w' ⟨rfl,rfl⟩);go_ret;exact ⟨rfl,rfl⟩
 ·go_enter Tryz.func112,Tryz.ntmps112;go_wp2_with (go_at_call 84;refine (bp 12 4095 _ (by omega)).mono ?_;rintro e w' ⟨rfl,rfl⟩);go_ret;exact ⟨rfl,rfl⟩
theorem lV (x level va:Int) (w:World) (h0:0<=x) (h1:x<=18446744073709551615) (hl:level=0∨level=1∨level=2) (hv0:0<=va) (hv1:va<=18446744073709551615):
 Calls Tryz.prog 92 #[.int .u64 x,.int .i64 level,.int .u64 va] w fun e w'=>e=.returned (.int .u64 (cz x level va))∧w'=w:=by
 have hpp:0<=bj x∧bj x<17592186044416:=⟨Int.emod_nonneg _ (by omega),Int.emod_lt_of_pos _ (by omega)⟩;have HP:∀w,Hid (Calls Tryz.prog 113 #[.int .u64 x] w fun e w'=>e=.returned (.int .u64 (bj x))∧w'=w):=fun w=>iC x w h0 h1;have HE:Hid (cz x level va=bj x*64/cH level*cH level+va%cH level):=by
  show _=_;rw [cz,if_neg (by omega)]
 rw [HE.out];clear HE;generalize bj x=p at *;rcases hl with rfl | rfl | rfl
 ·have H:Hid (bits .or .u64 (bits .andNot .u64 (p*64) 63) (bits .and .u64 va 63)=p*64/cH 0*cH 0+va%cH 0):=
   eE 6 (p*64) va 63 64 rfl rfl (by omega) (by omega) (by omega) hv0 hv1
  go_enter Tryz.func92,Tryz.ntmps92;go_wp2_with (first
   | (go_at_call 113;refine ((HP _).out).mono ?_;rintro e w' ⟨rfl,rfl⟩)
   | (go_at_call 112;refine (dL 0 63 _ (by omega)).mono ?_;rintro e w' ⟨rfl,rfl⟩))
  go_ret;exact ⟨br H.out,rfl⟩
 ·have H:Hid (bits .or .u64 (bits .andNot .u64 (p*64) 511) (bits .and .u64 va 511)=p*64/cH 1*cH 1+va%cH 1):=
   eE 9 (p*64) va 511 512 rfl rfl (by omega) (by omega) (by omega) hv0 hv1
  go_enter Tryz.func92,Tryz.ntmps92;go_wp2_with (first
   | (go_at_call 113;refine ((HP _).out).mono ?_;rintro e w' ⟨rfl,rfl⟩)
   | (go_at_call 112;refine (dL 1 511 _ (by omega)).mono ?_;rintro e w' ⟨rfl,rfl⟩))
  go_ret;exact ⟨br H.out,rfl⟩
 ·have H:Hid (bits .or .u64 (bits .andNot .u64 (p*64) 4095) (bits .and .u64 va 4095)=p*64/cH 2*cH 2+va%cH 2):=
   eE 12 (p*64) va 4095 4096 rfl rfl (by omega) (by omega) (by omega) hv0 hv1
  go_enter Tryz.func92,Tryz.ntmps92;go_wp2_with (first
   | (go_at_call 113;refine ((HP _).out).mono ?_;rintro e w' ⟨rfl,rfl⟩)
   | (go_at_call 112;refine (dL 2 4095 _ (by omega)).mono ?_;rintro e w' ⟨rfl,rfl⟩))
  go_ret;exact ⟨br H.out,rfl⟩
theorem lm (va level:Int) (w:World) (hv0:0<=va) (hv1:va<=18446744073709551615) (hl:level=0∨level=1∨level=2):
 Calls Tryz.prog 116 #[.int .u64 va,.int .i64 level] w fun e w'=>e=.returned (.int .u64 (bo va level))∧∃n,w'=w.drewN n:=by
 rcases hl with rfl | rfl | rfl
 ·have H:Hid (bits .and .u64 (va/64) 7=bo va 0):=bS 3 (va/64) 7 rfl (by omega) (by omega) (by omega);go_enter Tryz.func116,Tryz.ntmps116;go_wp2_with fail;go_quiet ((go_at_call 84;exact Calls.quiet_of_same (bp 3 7 _ (by omega))));go_wp2_with fail;go_ret;exact ⟨br H.out,nq,rfl⟩
 ·have H:Hid (bits .and .u64 (va/512) 7=bo va 1):=bS 3 (va/512) 7 rfl (by omega) (by omega) (by omega);go_enter Tryz.func116,Tryz.ntmps116;go_wp2_with fail;go_quiet ((go_at_call 84;exact Calls.quiet_of_same (bp 3 7 _ (by omega))));go_wp2_with fail;go_ret;exact ⟨br H.out,nq,rfl⟩
 ·have H:Hid (bits .and .u64 (va/4096) 7=bo va 2):=bS 3 (va/4096) 7 rfl (by omega) (by omega) (by omega);go_enter Tryz.func116,Tryz.ntmps116;go_wp2_with fail;go_quiet ((go_at_call 84;exact Calls.quiet_of_same (bp 3 7 _ (by omega))));go_wp2_with fail;go_ret;exact ⟨br H.out,nq,rfl⟩
theorem lF (a:Option Addr) (len cap:Nat) (addr n:Int) (w:World) (hl:len<=1048576) (h0:0<=addr) (h1:addr<=18446744073709551615) (h2:0<=n) (h3:n<=18446744073709551615):
 Calls Tryz.prog 139 #[.slice a len cap,.int .u64 addr,.int .u64 n] w fun e w'=>e=.returned (.bool (jL len addr n))∧w'=w:=by
 by_cases hh:n<=(len:Int);all_goals
  go_enter Tryz.func139,Tryz.ntmps139;go_wp2;all_goals
   go_ret;exact ⟨by simp [jL];try omega,rfl⟩
theorem gX (a:Option Addr) (len cap:Nat) (addr n:Int) (w:World) (hl:len<=1048576) (h0:0<=addr) (h1:addr<=18446744073709551615) (h3:n<=9223372036854775807):
 Calls Tryz.prog 137 #[.slice a len cap,.int .u64 addr,.int .i64 n] w fun e w'=>e=.returned (.bool (bw len addr n))∧w'=w:=by
 by_cases hn:n=1∨n=2∨n=4∨n=8
 ·rw [<-gV len addr n hn];rcases hn with rfl | rfl | rfl | rfl;all_goals
   go_enter Tryz.func137,Tryz.ntmps137;go_wp2_with (go_at_call 139;refine (lF _ _ _ _ _ _ hl h0 h1 (by omega) (by omega)).mono ?_;rintro e w' ⟨rfl,rfl⟩);go_ret;exact ⟨rfl,rfl⟩
 ·have n1:(n == 1)=false:=by simp;omega
  have n2:(n == 2)=false:=by simp;omega
  have n4:(n == 4)=false:=by simp;omega
  have n8:(n == 8)=false:=by simp;omega
  have hg:bw len addr n=false:=by simp [bw];omega
  rw [hg];clear hn hg;go_enter Tryz.func137,Tryz.ntmps137;go_wp2_with fail;go_ret;exact ⟨rfl,rfl⟩
theorem gY (b off len cap k:Nat) (zs:List Int) (w:World) (h:Cel w b off len zs) (hk:k<len) (hl:len<=1048576):
 Calls Tryz.prog 136 #[.slice (some ⟨b,off,none⟩) len cap,.int .u64 k] w fun e w'=>e=.returned (.int .u64 (zs[k]?.getD 0))∧w'=w:=by
 have hcell:=h.2.2 k hk;have hb:=h.2.1 k;obtain ⟨z,hz'⟩:∃z,z=zs[k]?.getD 0:=⟨_,rfl⟩;rw [<-hz'] at hcell hb |-;clear hz' h;go_enter Tryz.func136,Tryz.ntmps136;go_wp2_with fail;go_ret;exact ⟨rfl,rfl⟩
theorem gZ (b off len cap k:Nat) (zs:List Int) (w:World) (h:Cel w b off len zs) (hk:k+2<=len) (hl:len<=1048576):
 Calls Tryz.prog 141 #[.slice (some ⟨b,off,none⟩) len cap,.int .u64 k] w fun e w'=>e=.returned (.int .u64 (num ((zs.drop k).take 2)))∧w'=w:=by
 have hb1:=h.2.1 k;have hb2:=h.2.1 (k+1);have HF:Hid (bits .or .u64 (zs[k]?.getD 0) (zs[k+1]?.getD 0*256)=num ((zs.drop k).take 2)):=by
  rw [lD zs k (by have:=h.1;omega)];exact eZ 8 256 _ _ rfl hb1.1 (by omega) hb2.1 (by omega) (by omega)
 go_enter Tryz.func141,Tryz.ntmps141;go_wp2_with fail;refine (gY b off len cap k zs w h (by omega) hl).mono ?_;rintro e w' ⟨rfl,rfl⟩;go_wp2_with fail;rw [show ((k:Int)+1)=((k+1:Nat):Int) by omega];refine (gY b off len cap (k+1) zs _ h (by omega) hl).mono ?_;rintro e w' ⟨rfl,rfl⟩;go_wp2_with fail;go_ret;exact ⟨br HF.out,rfl⟩
theorem hD (b off len cap k:Nat) (zs:List Int) (w:World) (h:Cel w b off len zs) (hk:k+4<=len) (hl:len<=1048576):
 Calls Tryz.prog 140 #[.slice (some ⟨b,off,none⟩) len cap,.int .u64 k] w fun e w'=>e=.returned (.int .u64 (num ((zs.drop k).take 4)))∧w'=w:=by
 have hb1:=cZ zs k 2 h.2.1;have hb2:=cZ zs (k+2) 2 h.2.1;simp at hb1 hb2;have HF:Hid (bits .or .u64 (num ((zs.drop k).take 2)) (num ((zs.drop (k+2)).take 2)*65536)=num ((zs.drop k).take 4)):=by
  rw [ja zs k 2 (by have:=h.1;omega)];exact eZ 16 65536 _ _ rfl hb1.1 (by omega) hb2.1 (by omega) (by omega)
 go_enter Tryz.func140,Tryz.ntmps140;go_wp2_with fail;refine (gZ b off len cap k zs w h (by omega) hl).mono ?_;rintro e w' ⟨rfl,rfl⟩;go_wp2_with fail;rw [show ((k:Int)+2)=((k+2:Nat):Int) by omega];refine (gZ b off len cap (k+2) zs _ h (by omega) hl).mono ?_;rintro e w' ⟨rfl,rfl⟩;go_wp2_with fail;go_ret;exact ⟨br HF.out,rfl⟩
theorem kx (b off len cap k:Nat) (zs:List Int) (w:World) (h:Cel w b off len zs) (hk:k+8<=len) (hl:len<=1048576):
 Calls Tryz.prog 138 #[.slice (some ⟨b,off,none⟩) len cap,.int .u64 k] w fun e w'=>e=.returned (.int .u64 (num ((zs.drop k).take 8)))∧w'=w:=by
 have hb1:=cZ zs k 4 h.2.1;have hb2:=cZ zs (k+4) 4 h.2.1;simp at hb1 hb2;have HF:Hid (bits .or .u64 (num ((zs.drop k).take 4)) (num ((zs.drop (k+4)).take 4)*4294967296)=num ((zs.drop k).take 8)):=by
  rw [ja zs k 4 (by have:=h.1;omega)];exact eZ 32 4294967296 _ _ rfl hb1.1 (by omega) hb2.1 (by omega) (by omega)
 go_enter Tryz.func138,Tryz.ntmps138;go_wp2_with fail;refine (hD b off len cap k zs w h (by omega) hl).mono ?_;rintro e w' ⟨rfl,rfl⟩;go_wp2_with fail;rw [show ((k:Int)+4)=((k+4:Nat):Int) by omega];refine (hD b off len cap (k+4) zs _ h (by omega) hl).mono ?_;rintro e w' ⟨rfl,rfl⟩;go_wp2_with fail;go_ret;exact ⟨br HF.out,rfl⟩
theorem iP (n level va:Int) (w:World) (hv0:0<=va) (hv1:va<=18446744073709551615) (hl:level=0∨level=1∨level=2) (hn0:0<=n) (hn1:n<17592186044416):
 Calls Tryz.prog 114 #[.int .u64 n,.int .i64 level,.int .u64 va] w fun e w'=>e=.returned (.int .u64 (64*n+8*bo va level))∧∃q,w'=w.drewN q:=by
 obtain ⟨ix,hix⟩:∃ix,bo va level=ix:=⟨_,rfl⟩;have hib:=fH va level;have HI:Hid (bo va level=ix):=hix;have HE:Hid (n*64+ix*8=64*n+8*ix):=show _=_ by omega
 rw [hix] at hib |-;clear hix;go_enter Tryz.func114,Tryz.ntmps114;go_wp2_with fail;refine (lm va level w hv0 hv1 hl).mono ?_;rintro e w' ⟨rfl,nq,rfl⟩;rw [HI.out];go_wp2_with fail;go_ret;exact ⟨br HE.out,nq,rfl⟩
theorem jw (a:Option Addr) (len cap:Nat) (addr:Int) (w:World) (hl:len<=1048576) (h0:0<=addr) (h1:addr<=18446744073709551615) (hg:bw len addr 8=false):
 Calls Tryz.prog 135 #[.slice a len cap,.int .u64 addr] w fun e w'=>e=.returned (.tuple #[.int .u64 0,.bool false])∧w'=w:=by
 have HG:Hid (bw len addr 8=false):=hg;clear hg;go_enter Tryz.func135,Tryz.ntmps135;go_wp2_with (go_at_call 137;refine (gX _ _ _ _ _ _ hl h0 h1 (by omega)).mono ?_;rintro e w' ⟨rfl,rfl⟩;rw [HG.out]);exact bodyPost_ret (v:=.tuple #[.int .u64 0,.bool false]) (by simp [results,Tryz.results135,go_sem]) rfl ⟨rfl,rfl⟩
theorem jZ (a:Option Addr) (len cap:Nat) (zs:List Int) (addr:Int) (w:World) (h:Byt w a len zs) (hl:len<=1048576) (h0:0<=addr) (h1:addr<=18446744073709551615) (hg:bw len addr 8=true):
 Calls Tryz.prog 135 #[.slice a len cap,.int .u64 addr] w fun e w'=>e=.returned (.tuple #[.int .u64 (rdV zs addr 8),.bool true])∧w'=w:=by
 have hz:=h.1;have hv:rdV zs addr 8=num ((zs.drop addr.toNat).take 8):=by simp [rdV,hz,hg]
 rw [hv];have hg':=hg;simp only [bw,decide_eq_true_eq] at hg';obtain ⟨hn,hn1,hn2⟩:=hg';obtain ⟨k,rfl⟩:=Int.eq_ofNat_of_zero_le h0;obtain ⟨b,off,rfl⟩:∃b off,a=some ⟨b,off,none⟩:=by
  rcases h.2.2 with hy | ⟨b,off,rfl,hb,hcl⟩
  ·omega
  ·exact ⟨b,off,rfl⟩
 have HG:Hid (bw len k 8=true):=hg;have HC:Cel w b off len zs:=Cel.of_byt h;clear hg hv h;rw [Int.toNat_natCast];go_enter Tryz.func135,Tryz.ntmps135;go_wp2_with (first
  | (go_at_call 137;refine (gX _ _ _ _ _ _ hl h0 h1 (by omega)).mono ?_;rintro e w' ⟨rfl,rfl⟩;rw [HG.out])
  | (go_at_call 138;refine (kx b off len cap k zs _ HC (by omega) hl).mono ?_;rintro e w' ⟨rfl,rfl⟩))
 exact bodyPost_ret (v:=.tuple #[.int .u64 (num ((zs.drop k).take 8)),.bool true]) (by simp [results,Tryz.results135,go_sem]) rfl ⟨rfl,rfl⟩
theorem my (w:World):(Instr.typeAssert (.iface 128 (.agg #[])) 91 128 true).run Tryz.prog w=.ok (.tuple #[.agg #[],.bool true]) w:=by kernel_rfl
theorem mz (w:World):(Instr.typeAssert (.iface 139 (.agg #[])) 91 128 true).run Tryz.prog w=.ok (.tuple #[.agg #[],.bool false]) w:=by kernel_rfl
theorem mA (w:World):(Instr.typeAssert (.iface 139 (.agg #[])) 91 139 true).run Tryz.prog w=.ok (.tuple #[.agg #[],.bool true]) w:=by kernel_rfl
theorem mB (w:World):(Instr.typeAssert .nilIface 91 128 true).run Tryz.prog w=.ok (.tuple #[.agg #[],.bool false]) w:=by kernel_rfl
theorem mC (w:World):(Instr.typeAssert .nilIface 91 139 true).run Tryz.prog w=.ok (.tuple #[.agg #[],.bool false]) w:=by kernel_rfl
def bv (code:Int):Value:=if code=1 then .nilIface else if code=2 then .iface 128 (.agg #[]) else .iface 139 (.agg #[])
theorem iG (kind:Int) (w:World):Calls Tryz.prog 69 #[.int .i64 kind] w fun e w'=>e=.returned (.int .i64 (ck kind))∧w'=w:=by
 by_cases k0:kind=0
 ·subst k0;go_enter Tryz.func69,Tryz.ntmps69;go_wp2_with fail;go_ret;exact ⟨rfl,rfl⟩
 have k0':(kind == 0)=false:=by simpa using k0
 by_cases k1:kind=1
 ·subst k1;go_enter Tryz.func69,Tryz.ntmps69;go_wp2_with fail;go_ret;exact ⟨rfl,rfl⟩
 have k1':(kind == 1)=false:=by simpa using k1
 have HE:Hid (ck kind=15):=by show _=_;rw [ck,if_neg k0,if_neg k1]
 clear k0 k1;go_enter Tryz.func69,Tryz.ntmps69;go_wp2_with fail;go_ret;exact ⟨aU HE.out.symm,rfl⟩
theorem fU (kind:Int) (w:World):Calls Tryz.prog 70 #[.int .i64 kind] w fun e w'=>e=.returned (.int .i64 (bN kind))∧w'=w:=by
 by_cases k0:kind=0
 ·subst k0;go_enter Tryz.func70,Tryz.ntmps70;go_wp2_with fail;go_ret;exact ⟨rfl,rfl⟩
 have k0':(kind == 0)=false:=by simpa using k0
 by_cases k1:kind=1
 ·subst k1;go_enter Tryz.func70,Tryz.ntmps70;go_wp2_with fail;go_ret;exact ⟨rfl,rfl⟩
 have k1':(kind == 1)=false:=by simpa using k1
 have HE:Hid (bN kind=7):=by show _=_;rw [bN,if_neg k0,if_neg k1]
 clear k0 k1;go_enter Tryz.func70,Tryz.ntmps70;go_wp2_with fail;go_ret;exact ⟨aU HE.out.symm,rfl⟩
theorem jW (c kind:Int) (w:World) (hc:c=1∨c=2∨c=3):
 Calls Tryz.prog 38 #[bv c,.int .i64 kind] w fun e w'=>e=.returned (.int .i64 (if c=1 then 0 else if c=2 then ck kind else bN kind))∧w'=w:=by
 have t1:=my;have t2:=mz;have t3:=mA;have t4:=mB;have t5:=mC;rcases hc with rfl | rfl | rfl;all_goals
  simp only [bv,if_pos,Int.reduceEq];go_enter Tryz.func38,Tryz.ntmps38;go_wp2_with (first
   | (go_at_call 69;refine (iG kind _).mono ?_;rintro e w' ⟨rfl,rfl⟩)
   | (go_at_call 70;refine (fU kind _).mono ?_;rintro e w' ⟨rfl,rfl⟩))
  go_ret;exact ⟨rfl,rfl⟩
end Go.Proofs.YtfgogedgolgnaaaGreat
