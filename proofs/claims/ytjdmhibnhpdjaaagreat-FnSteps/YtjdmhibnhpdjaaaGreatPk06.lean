import Derived.Test.YtjdmhibnhpdjaaaGreatPk05
namespace Go.Proofs.YtjdmhibnhpdjaaaGreat
open Go.RowKit
set_option linter.unusedVariables false
set_option maxHeartbeats 6400000
set_option maxRecDepth 20000
theorem jM (n m:Int) (w:World) (h:(n=0∧m=0)∨(n=3∧m=7)∨(n=6∧m=63)∨(n=9∧m=511)∨(n=12∧m=4095)∨(n=44∧m=17592186044415)∨(n=50∧m=1125899906842623)∨(n=15∧m=32767)∨(n=16∧m=65535)):
 Calls Tryz.prog 89 #[VI n] w fun e w'=>e=.returned (VU m)∧w'=w:=by
 rcases h with ⟨rfl,rfl⟩ | ⟨rfl,rfl⟩ | ⟨rfl,rfl⟩ | ⟨rfl,rfl⟩ | ⟨rfl,rfl⟩ | ⟨rfl,rfl⟩ | ⟨rfl,rfl⟩ | ⟨rfl,rfl⟩ | ⟨rfl,rfl⟩;all_goals
  go_enter Tryz.func89,Tryz.ntmps89;go_wp2;go_ret;exact ⟨rfl,rfl⟩
theorem jS (x m:Int) (w:World):
 Calls Tryz.prog 123 #[VU x,VU m] w fun e w'=>e=.returned (.bool (yT x m))∧w'=w:=by
 go_enter Tryz.func123,Tryz.ntmps123;go_wp2;go_ret;exact ⟨rfl,rfl⟩
theorem mB (x:Int) (w:World) (h0:0<=x) (h1:x<=18446744073709551615):
 Calls Tryz.prog 115 #[VU x] w fun e w'=>e=.returned (.bool (jN x))∧w'=w:=by
 have hm:x/16384%1125899906842624=x/16384:=Int.emod_eq_of_lt (Int.ediv_nonneg h0 (by omega)) (by omega);rw [jN,hm];clear hm;by_cases ht:x/16384=0
 ·have ht':(x/16384 == 0)=true:=by simp [ht]
  clear ht;go_enter Tryz.func115,Tryz.ntmps115;go_wp2;go_ret;exact ⟨by simp [ht'],rfl⟩
 ·have ht':(x/16384 == 0)=false:=by simpa using ht
  clear ht;go_enter Tryz.func115,Tryz.ntmps115;go_wp2_with (go_at_call 89;refine (jM 50 1125899906842623 _ (by omega)).mono ?_;rintro e w' ⟨rfl,rfl⟩);go_ret;exact ⟨by simp [ht'],rfl⟩
theorem xg (x:Int) (w:World) (h0:0<=x) (h1:x<=18446744073709551615):
 Calls Tryz.prog 197 #[VU x] w fun e w'=>e=.returned (VU (jU x))∧w'=w:=by
 have H:=hid (kB 44 (x/1024) 17592186044415 rfl (by omega) (by omega) (by omega));go_enter Tryz.func197,Tryz.ntmps197;go_wp2_with (go_at_call 89;refine (jM 44 17592186044415 _ (by omega)).mono ?_;rintro e w' ⟨rfl,rfl⟩);go_ret;exact ⟨jV H.out,rfl⟩
theorem xh (x:Int) (w:World) (h0:0<=x) (h1:x<=18446744073709551615):
 Calls Tryz.prog 203 #[VU x] w fun e w'=>e=.returned (VU (x/18014398509481984%1024))∧w'=w:=by
 have H:Hid (x/18014398509481984=x/18014398509481984%1024):=show _=_ by omega
 go_enter Tryz.func203,Tryz.ntmps203;go_wp2;go_ret;exact ⟨jV H.out,rfl⟩
def uh (x:Int):Bool:=aS x 1 && (x/18014398509481984%1024 == 0) && !(aS x 4 && !aS x 2)
theorem ot (x:Int) (w:World) (h0:0<=x) (h1:x<=18446744073709551615):
 Calls Tryz.prog 201 #[VU x] w fun e w'=>e=.returned (.bool (uh x))∧w'=w:=by
 have HV:=hid (jW 0 x 1 rfl (by omega) h0 h1);have HR:=hid (jW 1 x 2 rfl (by omega) h0 h1);have HW:=hid (jW 2 x 4 rfl (by omega) h0 h1);cases hw:aS x 4 <;> cases hr:aS x 2 <;> cases hv:aS x 1;all_goals
  go_enter Tryz.func201,Tryz.ntmps201;go_wp2_with (first
   | (go_at_call 123;refine (jS x _ _).mono ?_;rintro e w' ⟨rfl,rfl⟩;first | rw [HW.out,hw] | rw [HR.out,hr] | rw [HV.out,hv])
   | (go_at_call 203;refine (xh x _ h0 h1).mono ?_;rintro e w' ⟨rfl,rfl⟩))
  all_goals
   go_ret;exact ⟨ik (by simp [uh,hw,hr,hv];try assumption),rfl⟩
theorem ui (x level:Int) (w:World) (h0:0<=x) (h1:x<=18446744073709551615) (hl:level=0∨level=1∨level=2):
 Calls Tryz.prog 202 #[VU x,VI level] w fun e w'=>e=.returned (.bool (jU x%gW level == 0))∧w'=w:=by
 have hpp:0<=jU x∧jU x<17592186044416:=⟨Int.emod_nonneg _ (by omega),Int.emod_lt_of_pos _ (by omega)⟩;have HP:∀w,Hid (Calls Tryz.prog 197 #[VU x] w fun e w'=>e=.returned (VU (jU x))∧w'=w):=fun w=>xg x w h0 h1;generalize jU x=p at *;rcases hl with rfl | rfl | rfl
 ·have H:Hid ((bits .and .u64 p 0 == 0)=(p%gW 0 == 0)):=by
   show _=_;rw [kB 0 p 0 rfl (by omega) hpp.1 (by omega)];rfl
  go_enter Tryz.func202,Tryz.ntmps202;go_wp2_with (first
   | (go_at_call 197;refine ((HP _).out).mono ?_;rintro e w' ⟨rfl,rfl⟩)
   | (go_at_call 89;refine (jM 0 0 _ (by omega)).mono ?_;rintro e w' ⟨rfl,rfl⟩))
  go_ret;exact ⟨ik H.out,rfl⟩
 ·have H:Hid ((bits .and .u64 p 7 == 0)=(p%gW 1 == 0)):=by
   show _=_;rw [kB 3 p 7 rfl (by omega) hpp.1 (by omega)];rfl
  go_enter Tryz.func202,Tryz.ntmps202;go_wp2_with (first
   | (go_at_call 197;refine ((HP _).out).mono ?_;rintro e w' ⟨rfl,rfl⟩)
   | (go_at_call 89;refine (jM 3 7 _ (by omega)).mono ?_;rintro e w' ⟨rfl,rfl⟩))
  go_ret;exact ⟨ik H.out,rfl⟩
 ·have H:Hid ((bits .and .u64 p 63 == 0)=(p%gW 2 == 0)):=by
   show _=_;rw [kB 6 p 63 rfl (by omega) hpp.1 (by omega)];rfl
  go_enter Tryz.func202,Tryz.ntmps202;go_wp2_with (first
   | (go_at_call 197;refine ((HP _).out).mono ?_;rintro e w' ⟨rfl,rfl⟩)
   | (go_at_call 89;refine (jM 6 63 _ (by omega)).mono ?_;rintro e w' ⟨rfl,rfl⟩))
  go_ret;exact ⟨ik H.out,rfl⟩
theorem jQ (l:Int) (w:World):
 Calls Tryz.prog 121 #[VI l] w fun e w'=>e=.returned (.bool (decide (0<=l∧l<=2)))∧w'=w:=by
 by_cases h:0<=l
 ·go_enter Tryz.func121,Tryz.ntmps121;go_wp2;go_ret;exact ⟨ik (by simp [h]),rfl⟩
 ·go_enter Tryz.func121,Tryz.ntmps121;go_wp2;go_ret;exact ⟨ik (by simp;omega),rfl⟩
theorem rJ (x level:Int) (w:World) (h0:0<=x) (h1:x<=18446744073709551615):
 Calls Tryz.prog 199 #[VU x,VI level] w fun e w'=>e=.returned (VI (aq x level))∧w'=w:=by
 by_cases hlev:0<=level∧level<=2
 ·have hk:decide (0<=level∧level<=2)=true:=by simpa using hlev
  have HK:=hid hk;have hl:level=0∨level=1∨level=2:=by omega
  clear hk hlev;have HR:=hid (Dl x h0 h1);have HU:=hid (Dm x h0 h1);cases hs:uh x
  ·have HE:Hid (aq x level=0):=by
    show _=_;simp only [aq];rw [if_pos];simp only [uh] at hs;cases hv:aS x 1
    ·simp
    ·rw [hv] at hs;by_cases hb:0<x/18014398509481984%1024
     ·simp [hb]
     ·have hb':x/18014398509481984%1024=0:=by omega
      rw [hb'] at hs |-;simp at hs;simp [hs]
   go_enter Tryz.func199,Tryz.ntmps199;go_wp2_with (first
    | (go_at_call 121;refine (jQ level _).mono ?_;rintro e w' ⟨rfl,rfl⟩;rw [HK.out])
    | (go_at_call 201;refine (ot x _ h0 h1).mono ?_;rintro e w' ⟨rfl,rfl⟩;rw [hs]))
   go_ret;exact ⟨jc HE.out.symm,rfl⟩
  ·have hn:¬(level<0∨2<level∨aS x 1=false∨0<x/18014398509481984%1024∨(aS x 4=true∧aS x 2=false)):=by
    simp only [uh,Bool.and_eq_true,beq_iff_eq,Bool.not_eq_true',Bool.and_eq_false_iff,Bool.not_eq_false'] at hs;obtain ⟨⟨a1,a2⟩,a3⟩:=hs;rw [a1,a2];rcases a3 with a3 | a3
    ·simp [a3];omega
    ·simp [a3];omega
   have HE:Hid (aq x level=if aS x 2=false∧aS x 4=false∧aS x 8=false then (if level=0∨aS x 16=true∨aS x 64=true∨aS x 128=true then 0 else 1) else if 0<jU x%gW level then 0 else 2):=by
    show _=_;rw [aq,if_neg hn]
   clear hn;cases hr:(aS x 2 || aS x 4 || aS x 8)
   ·simp only [Bool.or_eq_false_iff] at hr;have HE2:Hid (aq x level=if level=0∨aS x 16=true∨aS x 64=true∨aS x 128=true then 0 else 1):=by
     show _=_;rw [HE.out,if_pos ⟨hr.1.1,hr.1.2,hr.2⟩]
    clear HE;have HR':Hid (yT x 14=false):=by show _=_;rw [HR.out,hr.1.1,hr.1.2,hr.2];rfl
    clear HR hr;by_cases hz:level=0
    ·subst hz;go_enter Tryz.func199,Tryz.ntmps199;go_wp2_with (first
      | (go_at_call 121;refine (jQ 0 _).mono ?_;rintro e w' ⟨rfl,rfl⟩;rw [HK.out])
      | (go_at_call 201;refine (ot x _ h0 h1).mono ?_;rintro e w' ⟨rfl,rfl⟩;rw [hs])
      | (go_at_call 123;refine (jS x _ _).mono ?_;rintro e w' ⟨rfl,rfl⟩;rw [HR'.out]))
     go_ret;exact ⟨jc (by rw [HE2.out];simp),rfl⟩
    ·have hz':(level == 0)=false:=by simpa using hz
     cases hu:(aS x 16 || aS x 64 || aS x 128)
     ·have HE3:Hid (aq x level=1):=by
       show _=_;simp only [Bool.or_eq_false_iff] at hu;rw [HE2.out,hu.1.1,hu.1.2,hu.2];simp [hz]
      go_enter Tryz.func199,Tryz.ntmps199;go_wp2_with (first
       | (go_at_call 121;refine (jQ level _).mono ?_;rintro e w' ⟨rfl,rfl⟩;rw [HK.out])
       | (go_at_call 201;refine (ot x _ h0 h1).mono ?_;rintro e w' ⟨rfl,rfl⟩;rw [hs])
       | (go_at_call 123;refine (jS x _ _).mono ?_;rintro e w' ⟨rfl,rfl⟩;first | rw [HR'.out] | rw [HU.out,hu]))
      go_ret;exact ⟨jc HE3.out.symm,rfl⟩
     ·have HE3:Hid (aq x level=0):=by
       show _=_;simp only [Bool.or_eq_true] at hu;rw [HE2.out,if_pos];rcases hu with (hu | hu) | hu <;> simp [hu]
      go_enter Tryz.func199,Tryz.ntmps199;go_wp2_with (first
       | (go_at_call 121;refine (jQ level _).mono ?_;rintro e w' ⟨rfl,rfl⟩;rw [HK.out])
       | (go_at_call 201;refine (ot x _ h0 h1).mono ?_;rintro e w' ⟨rfl,rfl⟩;rw [hs])
       | (go_at_call 123;refine (jS x _ _).mono ?_;rintro e w' ⟨rfl,rfl⟩;first | rw [HR'.out] | rw [HU.out,hu]))
      go_ret;exact ⟨jc HE3.out.symm,rfl⟩
   ·have HR':Hid (yT x 14=true):=by show _=_;rw [HR.out,hr]
    have HE2:Hid (aq x level=if 0<jU x%gW level then 0 else 2):=by
     show _=_;rw [HE.out,if_neg];rintro ⟨q1,q2,q3⟩;rw [q1,q2,q3] at hr;cases hr
    clear HE HR hr;have hnn:0<=jU x%gW level:=by
     apply Int.emod_nonneg;rcases hl with rfl | rfl | rfl <;> decide
    cases ha:(jU x%gW level == 0)
    ·have HE3:Hid (aq x level=0):=by
      show _=_;have:jU x%gW level≠0:=by simpa using ha
      rw [HE2.out,if_pos (by omega)]
     clear hnn;go_enter Tryz.func199,Tryz.ntmps199;go_wp2_with (first
      | (go_at_call 121;refine (jQ level _).mono ?_;rintro e w' ⟨rfl,rfl⟩;rw [HK.out])
      | (go_at_call 201;refine (ot x _ h0 h1).mono ?_;rintro e w' ⟨rfl,rfl⟩;rw [hs])
      | (go_at_call 123;refine (jS x _ _).mono ?_;rintro e w' ⟨rfl,rfl⟩;rw [HR'.out])
      | (go_at_call 202;refine (ui x level _ h0 h1 hl).mono ?_;rintro e w' ⟨rfl,rfl⟩;rw [ha]))
     go_ret;exact ⟨jc HE3.out.symm,rfl⟩
    ·have HE3:Hid (aq x level=2):=by
      show _=_;have:jU x%gW level=0:=by simpa using ha
      rw [HE2.out,if_neg (by omega)]
     clear hnn;go_enter Tryz.func199,Tryz.ntmps199;go_wp2_with (first
      | (go_at_call 121;refine (jQ level _).mono ?_;rintro e w' ⟨rfl,rfl⟩;rw [HK.out])
      | (go_at_call 201;refine (ot x _ h0 h1).mono ?_;rintro e w' ⟨rfl,rfl⟩;rw [hs])
      | (go_at_call 123;refine (jS x _ _).mono ?_;rintro e w' ⟨rfl,rfl⟩;rw [HR'.out])
      | (go_at_call 202;refine (ui x level _ h0 h1 hl).mono ?_;rintro e w' ⟨rfl,rfl⟩;rw [ha]))
     go_ret;exact ⟨jc HE3.out.symm,rfl⟩
 ·have HK:Hid (decide (0<=level∧level<=2)=false):=by show _=_;simpa using hlev
  have HE:Hid (aq x level=0):=by
   show _=_;rw [aq,if_pos (by omega)]
  clear hlev;go_enter Tryz.func199,Tryz.ntmps199;go_wp2_with (go_at_call 121;refine (jQ level _).mono ?_;rintro e w' ⟨rfl,rfl⟩;rw [HK.out]);go_ret;exact ⟨jc HE.out.symm,rfl⟩
def lk (x kind:Int) (mxr:Bool):Bool:=if kind=0 then aS x 8 else if kind=1 then aS x 2 || (mxr && aS x 8) else if kind=2 then aS x 4 else false
theorem nv (x kind:Int) (mxr:Bool) (w:World) (h0:0<=x) (h1:x<=18446744073709551615):
 Calls Tryz.prog 193 #[VU x,VI kind,.bool mxr] w fun e w'=>e=.returned (.bool (lk x kind mxr))∧w'=w:=by
 have HR:=hid (jW 1 x 2 rfl (by omega) h0 h1);have HW:=hid (jW 2 x 4 rfl (by omega) h0 h1);have HX:=hid (jW 3 x 8 rfl (by omega) h0 h1);by_cases k0:kind=0
 ·subst k0;go_enter Tryz.func193,Tryz.ntmps193;go_wp2_with (go_at_call 123;refine (jS x _ _).mono ?_;rintro e w' ⟨rfl,rfl⟩;rw [HX.out]);go_ret;exact ⟨rfl,rfl⟩
 have k0':(kind == 0)=false:=by simpa using k0
 by_cases k1:kind=1
 ·subst k1;cases hr:aS x 2 <;> cases mxr;all_goals
   go_enter Tryz.func193,Tryz.ntmps193;go_wp2_with (go_at_call 123;refine (jS x _ _).mono ?_;rintro e w' ⟨rfl,rfl⟩;first | rw [HR.out,hr] | rw [HX.out]);go_ret;exact ⟨ik (by simp [lk,hr]),rfl⟩
 have k1':(kind == 1)=false:=by simpa using k1
 by_cases k2:kind=2
 ·subst k2;go_enter Tryz.func193,Tryz.ntmps193;go_wp2_with (go_at_call 123;refine (jS x _ _).mono ?_;rintro e w' ⟨rfl,rfl⟩;rw [HW.out]);go_ret;exact ⟨rfl,rfl⟩
 have k2':(kind == 2)=false:=by simpa using k2
 have HE:Hid (lk x kind mxr=false):=by show _=_;rw [lk,if_neg k0,if_neg k1,if_neg k2]
 clear k0 k1 k2;go_enter Tryz.func193,Tryz.ntmps193;go_wp2;go_ret;exact ⟨ik HE.out.symm,rfl⟩
def lm (x kind mode:Int) (sum:Bool):Bool:=if mode=0 then aS x 16 else if mode=1 then !aS x 16 || (sum && kind != 0) else false
theorem qQ (x kind mode:Int) (sum:Bool) (w:World) (h0:0<=x) (h1:x<=18446744073709551615):
 Calls Tryz.prog 194 #[VU x,VI kind,VI mode,.bool sum] w fun e w'=>e=.returned (.bool (lm x kind mode sum))∧w'=w:=by
 have HU:=hid (jW 4 x 16 rfl (by omega) h0 h1);by_cases k0:mode=0
 ·subst k0;go_enter Tryz.func194,Tryz.ntmps194;go_wp2_with (go_at_call 123;refine (jS x _ _).mono ?_;rintro e w' ⟨rfl,rfl⟩;rw [HU.out]);go_ret;exact ⟨rfl,rfl⟩
 have k0':(mode == 0)=false:=by simpa using k0
 by_cases k1:mode=1
 ·subst k1;cases hu:aS x 16 <;> cases sum;all_goals
   go_enter Tryz.func194,Tryz.ntmps194;go_wp2_with (go_at_call 123;refine (jS x _ _).mono ?_;rintro e w' ⟨rfl,rfl⟩;rw [HU.out,hu]);all_goals
    go_ret;exact ⟨ik (by simp_all [lm]),rfl⟩
 have k1':(mode == 1)=false:=by simpa using k1
 have HE:Hid (lm x kind mode sum=false):=by show _=_;rw [lm,if_neg k0,if_neg k1]
 clear k0 k1;go_enter Tryz.func194,Tryz.ntmps194;go_wp2;go_ret;exact ⟨ik HE.out.symm,rfl⟩
def qD (x kind:Int):Bool:=aS x 64 && (kind != 2 || aS x 128)
theorem Ch (x kind:Int) (w:World) (h0:0<=x) (h1:x<=18446744073709551615):
 Calls Tryz.prog 195 #[VU x,VI kind] w fun e w'=>e=.returned (.bool (qD x kind))∧w'=w:=by
 have HA:=hid (jW 6 x 64 rfl (by omega) h0 h1);have HD:=hid (jW 7 x 128 rfl (by omega) h0 h1);cases ha:aS x 64
 ·go_enter Tryz.func195,Tryz.ntmps195;go_wp2_with (go_at_call 123;refine (jS x _ _).mono ?_;rintro e w' ⟨rfl,rfl⟩;rw [HA.out,ha]);go_ret;exact ⟨ik (by simp [qD,ha]),rfl⟩
 ·cases hk:(kind != 2)
  ·go_enter Tryz.func195,Tryz.ntmps195;go_wp2_with (go_at_call 123;refine (jS x _ _).mono ?_;rintro e w' ⟨rfl,rfl⟩;first | rw [HA.out,ha] | rw [HD.out]);go_ret;exact ⟨ik (by simp [qD,ha,hk]),rfl⟩
  ·go_enter Tryz.func195,Tryz.ntmps195;go_wp2_with (go_at_call 123;refine (jS x _ _).mono ?_;rintro e w' ⟨rfl,rfl⟩;first | rw [HA.out,ha] | rw [HD.out]);go_ret;exact ⟨ik (by simp [qD,ha,hk]),rfl⟩
theorem zp (x kind mode:Int) (sum mxr:Bool):jH x kind mode sum mxr=(lk x kind mxr && lm x kind mode sum && qD x kind):=by
 simp only [jH,lk,lm,qD];by_cases k0:kind=0
 ·subst k0;simp only [if_pos];cases aS x 8 <;> cases aS x 64 <;> simp <;> split <;> simp
 by_cases k1:kind=1
 ·subst k1;simp only [if_neg k0,if_pos];by_cases m0:mode=0
  ·subst m0;simp
  by_cases m1:mode=1
  ·subst m1;simp
  ·simp [m0,m1]
 by_cases k2:kind=2
 ·subst k2;by_cases m0:mode=0
  ·subst m0;simp;cases aS x 64 <;> cases aS x 128 <;> cases aS x 4 <;> simp
  by_cases m1:mode=1
  ·subst m1;simp;cases aS x 64 <;> cases aS x 128 <;> cases aS x 4 <;> cases aS x 16 <;> cases sum <;> simp
  ·simp [m0,m1]
 ·simp [k0,k1,k2]
theorem qa (x kind mode:Int) (sum mxr:Bool) (w:World) (h0:0<=x) (h1:x<=18446744073709551615):
 Calls Tryz.prog 184 #[VU x,VI kind,VI mode,.bool sum,.bool mxr] w fun e w'=>e=.returned (.bool (jH x kind mode sum mxr))∧w'=w:=by
 rw [zp];cases hk:lk x kind mxr
 ·go_enter Tryz.func184,Tryz.ntmps184;go_wp2_with (first
   | (go_at_call 193;refine (nv x kind mxr _ h0 h1).mono ?_;rintro e w' ⟨rfl,rfl⟩;rw [hk]))
  go_ret;exact ⟨ik (by simp),rfl⟩
 cases hm:lm x kind mode sum
 ·go_enter Tryz.func184,Tryz.ntmps184;go_wp2_with (first
   | (go_at_call 193;refine (nv x kind mxr _ h0 h1).mono ?_;rintro e w' ⟨rfl,rfl⟩;rw [hk])
   | (go_at_call 194;refine (qQ x kind mode sum _ h0 h1).mono ?_;rintro e w' ⟨rfl,rfl⟩;rw [hm]))
  go_ret;exact ⟨ik (by simp),rfl⟩
 ·go_enter Tryz.func184,Tryz.ntmps184;go_wp2_with (first
   | (go_at_call 193;refine (nv x kind mxr _ h0 h1).mono ?_;rintro e w' ⟨rfl,rfl⟩;rw [hk])
   | (go_at_call 194;refine (qQ x kind mode sum _ h0 h1).mono ?_;rintro e w' ⟨rfl,rfl⟩;rw [hm])
   | (go_at_call 195;refine (Ch x kind _ h0 h1).mono ?_;rintro e w' ⟨rfl,rfl⟩))
  go_ret;exact ⟨ik (by simp),rfl⟩
theorem oV (level m:Int) (w:World) (h:(level=0∧m=63)∨(level=1∧m=511)∨(level=2∧m=4095)):
 Calls Tryz.prog 196 #[VI level] w fun e w'=>e=.returned (VU m)∧w'=w:=by
 rcases h with ⟨rfl,rfl⟩ | ⟨rfl,rfl⟩ | ⟨rfl,rfl⟩
 ·go_enter Tryz.func196,Tryz.ntmps196;go_wp2_with (go_at_call 89;refine (jM 6 63 _ (by omega)).mono ?_;rintro e w' ⟨rfl,rfl⟩);go_ret;exact ⟨rfl,rfl⟩
 ·go_enter Tryz.func196,Tryz.ntmps196;go_wp2_with (go_at_call 89;refine (jM 9 511 _ (by omega)).mono ?_;rintro e w' ⟨rfl,rfl⟩);go_ret;exact ⟨rfl,rfl⟩
 ·go_enter Tryz.func196,Tryz.ntmps196;go_wp2_with (go_at_call 89;refine (jM 12 4095 _ (by omega)).mono ?_;rintro e w' ⟨rfl,rfl⟩);go_ret;exact ⟨rfl,rfl⟩
theorem Ez (x level va:Int) (w:World) (h0:0<=x) (h1:x<=18446744073709551615) (hl:level=0∨level=1∨level=2) (hv0:0<=va) (hv1:va<=18446744073709551615):
 Calls Tryz.prog 185 #[VU x,VI level,VU va] w fun e w'=>e=.returned (VU (fz x level va))∧w'=w:=by
 have hpp:0<=jU x∧jU x<17592186044416:=⟨Int.emod_nonneg _ (by omega),Int.emod_lt_of_pos _ (by omega)⟩;have HP:∀w,Hid (Calls Tryz.prog 197 #[VU x] w fun e w'=>e=.returned (VU (jU x))∧w'=w):=fun w=>xg x w h0 h1;have HE:Hid (fz x level va=jU x*64/ey level*ey level+va%ey level):=by
  show _=_;rw [fz,if_neg (by omega)]
 rw [HE.out];clear HE;generalize jU x=p at *;rcases hl with rfl | rfl | rfl
 ·have H:Hid (bits .or .u64 (bits .andNot .u64 (p*64) 63) (bits .and .u64 va 63)=p*64/ey 0*ey 0+va%ey 0):=
   rj 6 (p*64) va 63 64 rfl rfl (by omega) (by omega) (by omega) hv0 hv1
  go_enter Tryz.func185,Tryz.ntmps185;go_wp2_with (first
   | (go_at_call 197;refine ((HP _).out).mono ?_;rintro e w' ⟨rfl,rfl⟩)
   | (go_at_call 196;refine (oV 0 63 _ (by omega)).mono ?_;rintro e w' ⟨rfl,rfl⟩))
  go_ret;exact ⟨jV H.out,rfl⟩
 ·have H:Hid (bits .or .u64 (bits .andNot .u64 (p*64) 511) (bits .and .u64 va 511)=p*64/ey 1*ey 1+va%ey 1):=
   rj 9 (p*64) va 511 512 rfl rfl (by omega) (by omega) (by omega) hv0 hv1
  go_enter Tryz.func185,Tryz.ntmps185;go_wp2_with (first
   | (go_at_call 197;refine ((HP _).out).mono ?_;rintro e w' ⟨rfl,rfl⟩)
   | (go_at_call 196;refine (oV 1 511 _ (by omega)).mono ?_;rintro e w' ⟨rfl,rfl⟩))
  go_ret;exact ⟨jV H.out,rfl⟩
 ·have H:Hid (bits .or .u64 (bits .andNot .u64 (p*64) 4095) (bits .and .u64 va 4095)=p*64/ey 2*ey 2+va%ey 2):=
   rj 12 (p*64) va 4095 4096 rfl rfl (by omega) (by omega) (by omega) hv0 hv1
  go_enter Tryz.func185,Tryz.ntmps185;go_wp2_with (first
   | (go_at_call 197;refine ((HP _).out).mono ?_;rintro e w' ⟨rfl,rfl⟩)
   | (go_at_call 196;refine (oV 2 4095 _ (by omega)).mono ?_;rintro e w' ⟨rfl,rfl⟩))
  go_ret;exact ⟨jV H.out,rfl⟩
theorem DD (va level:Int) (w:World) (hv0:0<=va) (hv1:va<=18446744073709551615) (hl:level=0∨level=1∨level=2):
 Calls Tryz.prog 200 #[VU va,VI level] w fun e w'=>e=.returned (VU (az va level))∧∃n,w'=w.drewN n:=by
 rcases hl with rfl | rfl | rfl
 ·have H:=hid (kB 3 (va/64) 7 rfl (by omega) (by omega) (by omega));go_enter Tryz.func200,Tryz.ntmps200;go_wp2;go_quiet ((go_at_call 89;exact Calls.quiet_of_same (jM 3 7 _ (by omega))));go_wp2;go_ret;exact ⟨jV H.out,nq,rfl⟩
 ·have H:=hid (kB 3 (va/512) 7 rfl (by omega) (by omega) (by omega));go_enter Tryz.func200,Tryz.ntmps200;go_wp2;go_quiet ((go_at_call 89;exact Calls.quiet_of_same (jM 3 7 _ (by omega))));go_wp2;go_ret;exact ⟨jV H.out,nq,rfl⟩
 ·have H:=hid (kB 3 (va/4096) 7 rfl (by omega) (by omega) (by omega));go_enter Tryz.func200,Tryz.ntmps200;go_wp2;go_quiet ((go_at_call 89;exact Calls.quiet_of_same (jM 3 7 _ (by omega))));go_wp2;go_ret;exact ⟨jV H.out,nq,rfl⟩
theorem xG (n level va:Int) (w:World) (hv0:0<=va) (hv1:va<=18446744073709551615) (hl:level=0∨level=1∨level=2) (hn0:0<=n) (hn1:n<17592186044416):
 Calls Tryz.prog 198 #[VU n,VI level,VU va] w fun e w'=>e=.returned (VU (64*n+8*az va level))∧∃q,w'=w.drewN q:=by
 obtain ⟨ix,hix⟩:∃ix,az va level=ix:=⟨_,rfl⟩;have hib:=tA va level;have HI:=hid hix;have HE:Hid (n*64+ix*8=64*n+8*ix):=show _=_ by omega
 rw [hix] at hib |-;clear hix;go_enter Tryz.func198,Tryz.ntmps198;go_wp2_with fail;refine (DD va level w hv0 hv1 hl).mono ?_;rintro e w' ⟨rfl,nq,rfl⟩;rw [HI.out];go_wp2;go_ret;exact ⟨jV HE.out,nq,rfl⟩
theorem zl (a:Option Addr) (len cap:Nat) (addr:Int) (w:World) (hl:len<=1048576) (h0:0<=addr) (h1:addr<=18446744073709551615) (hg:kc len addr 8=false):
 Calls Tryz.prog 218 #[.slice a len cap,VU addr] w fun e w'=>e=.returned (.tuple #[VU 0,.bool false])∧w'=w:=by
 have HG:=hid hg;clear hg;go_enter Tryz.func218,Tryz.ntmps218;go_wp2_with (go_at_call 219;refine (vO _ _ _ _ _ _ hl h0 h1 (by omega)).mono ?_;rintro e w' ⟨rfl,rfl⟩;rw [HG.out]);exact bodyPost_ret (v:=.tuple #[VU 0,.bool false]) (by simp [results,Tryz.results218,go_sem]) rfl ⟨rfl,rfl⟩
theorem Ak (a:Option Addr) (len cap:Nat) (zs:List Int) (addr:Int) (w:World) (h:Byt w a len zs) (hl:len<=1048576) (h0:0<=addr) (h1:addr<=18446744073709551615) (hg:kc len addr 8=true):
 Calls Tryz.prog 218 #[.slice a len cap,VU addr] w fun e w'=>e=.returned (.tuple #[VU (rdV zs addr 8),.bool true])∧w'=w:=by
 have hz:=h.1;have hv:rdV zs addr 8=num ((zs.drop addr.toNat).take 8):=by simp [rdV,hz,hg]
 rw [hv];have hg':=hg;simp only [kc,decide_eq_true_eq] at hg';obtain ⟨hn,hn1,hn2⟩:=hg';obtain ⟨k,rfl⟩:=Int.eq_ofNat_of_zero_le h0;obtain ⟨b,off,rfl⟩:∃b off,a=some (AD b off):=by
  rcases h.2.2 with hy | ⟨b,off,rfl,hb,hcl⟩
  ·omega
  ·exact ⟨b,off,rfl⟩
 have HG:=hid hg;have HC:=Cel.of_byt h;clear hg hv h;rw [Int.toNat_natCast];go_enter Tryz.func218,Tryz.ntmps218;go_wp2_with (first
  | (go_at_call 219;refine (vO _ _ _ _ _ _ hl h0 h1 (by omega)).mono ?_;rintro e w' ⟨rfl,rfl⟩;rw [HG.out])
  | (go_at_call 220;refine (Bn b off len cap k zs _ HC (by omega) hl).mono ?_;rintro e w' ⟨rfl,rfl⟩))
 exact bodyPost_ret (v:=.tuple #[VU (num ((zs.drop k).take 8)),.bool true]) (by simp [results,Tryz.results218,go_sem]) rfl ⟨rfl,rfl⟩
theorem FC (w:World):(Instr.typeAssert (.iface 268 (.agg #[])) 256 268 true).run Tryz.prog w=.ok (.tuple #[.agg #[],.bool true]) w:=by kernel_rfl
theorem FD (w:World):(Instr.typeAssert (.iface 269 (.agg #[])) 256 268 true).run Tryz.prog w=.ok (.tuple #[.agg #[],.bool false]) w:=by kernel_rfl
theorem FE (w:World):(Instr.typeAssert (.iface 269 (.agg #[])) 256 269 true).run Tryz.prog w=.ok (.tuple #[.agg #[],.bool true]) w:=by kernel_rfl
theorem FF (w:World):(Instr.typeAssert .nilIface 256 268 true).run Tryz.prog w=.ok (.tuple #[.agg #[],.bool false]) w:=by kernel_rfl
theorem FG (w:World):(Instr.typeAssert .nilIface 256 269 true).run Tryz.prog w=.ok (.tuple #[.agg #[],.bool false]) w:=by kernel_rfl
def jg (code:Int):Value:=if code=1 then .nilIface else if code=2 then .iface 268 (.agg #[]) else .iface 269 (.agg #[])
theorem xu (kind:Int) (w:World):Calls Tryz.prog 155 #[VI kind] w fun e w'=>e=.returned (VI (bW kind))∧w'=w:=by
 by_cases k0:kind=0
 ·subst k0;go_enter Tryz.func155,Tryz.ntmps155;go_wp2;go_ret;exact ⟨rfl,rfl⟩
 have k0':(kind == 0)=false:=by simpa using k0
 by_cases k1:kind=1
 ·subst k1;go_enter Tryz.func155,Tryz.ntmps155;go_wp2;go_ret;exact ⟨rfl,rfl⟩
 have k1':(kind == 1)=false:=by simpa using k1
 have HE:Hid (bW kind=15):=by show _=_;rw [bW,if_neg k0,if_neg k1]
 clear k0 k1;go_enter Tryz.func155,Tryz.ntmps155;go_wp2;go_ret;exact ⟨jc HE.out.symm,rfl⟩
theorem pP (kind:Int) (w:World):Calls Tryz.prog 143 #[VI kind] w fun e w'=>e=.returned (VI (aV kind))∧w'=w:=by
 by_cases k0:kind=0
 ·subst k0;go_enter Tryz.func143,Tryz.ntmps143;go_wp2;go_ret;exact ⟨rfl,rfl⟩
 have k0':(kind == 0)=false:=by simpa using k0
 by_cases k1:kind=1
 ·subst k1;go_enter Tryz.func143,Tryz.ntmps143;go_wp2;go_ret;exact ⟨rfl,rfl⟩
 have k1':(kind == 1)=false:=by simpa using k1
 have HE:Hid (aV kind=7):=by show _=_;rw [aV,if_neg k0,if_neg k1]
 clear k0 k1;go_enter Tryz.func143,Tryz.ntmps143;go_wp2;go_ret;exact ⟨jc HE.out.symm,rfl⟩
theorem ul (c kind:Int) (w:World) (hc:c=1∨c=2∨c=3):
 Calls Tryz.prog 145 #[jg c,VI kind] w fun e w'=>e=.returned (VI (if c=1 then 0 else if c=2 then bW kind else aV kind))∧w'=w:=by
 have t1:=FC;have t2:=FD;have t3:=FE;have t4:=FF;have t5:=FG;rcases hc with rfl | rfl | rfl;all_goals
  simp only [jg,if_pos,Int.reduceEq];go_enter Tryz.func145,Tryz.ntmps145;go_wp2_with (first
   | (go_at_call 155;refine (xu kind _).mono ?_;rintro e w' ⟨rfl,rfl⟩)
   | (go_at_call 143;refine (pP kind _).mono ?_;rintro e w' ⟨rfl,rfl⟩))
  go_ret;exact ⟨rfl,rfl⟩
def vn (acc:List aT) (r:Int × Int × Int × List aT):Int × Int × Int × List aT:=(r.1,r.2.1,r.2.2.1,acc++r.2.2.2)
theorem eS (zs:List Int) (va:Int) (k:Nat) (n:Int) (h:kc zs.length (64*n+8*az va k) 8=false):ag zs va k n=(3,(k:Int),0,[]):=by
 unfold ag;rw [if_pos h]
theorem eT (zs:List Int) (va:Int) (k:Nat) (n:Int) (h:kc zs.length (64*n+8*az va k) 8=true) (hk:aq (rdV zs (64*n+8*az va k) 8) k=0):ag zs va k n=(2,(k:Int),0,[]):=by
 unfold ag;rw [if_neg (by rw [h];simp),if_pos hk]
theorem um (zs:List Int) (va:Int) (k:Nat) (n:Int) (h:kc zs.length (64*n+8*az va k) 8=true) (hk:aq (rdV zs (64*n+8*az va k) 8) k=2):ag zs va k n=(1,(k:Int),rdV zs (64*n+8*az va k) 8,[((k:Int),64*n+8*az va k,rdV zs (64*n+8*az va k) 8)]):=by
 unfold ag;rw [if_neg (by rw [h];simp),if_neg (by rw [hk];decide),if_pos hk]
theorem un (zs:List Int) (va:Int) (k:Nat) (n:Int) (h:kc zs.length (64*n+8*az va ((k+1:Nat):Int)) 8=true) (hk:aq (rdV zs (64*n+8*az va ((k+1:Nat):Int)) 8) ((k+1:Nat):Int)=1):
 ag zs va (k+1) n=vn [(((k+1:Nat):Int),64*n+8*az va ((k+1:Nat):Int),rdV zs (64*n+8*az va ((k+1:Nat):Int)) 8)] (ag zs va k (jU (rdV zs (64*n+8*az va ((k+1:Nat):Int)) 8))):=by
 rw [ag,if_neg (by rw [h];simp),if_neg (by rw [hk];decide),if_neg (by rw [hk];decide)];rfl
theorem Dc (a b:List aT) (r:Int × Int × Int × List aT):vn a (vn b r)=vn (a++b) r:=by
 simp [vn]
def Ad (base:Nat) (w':World) (e:Ending) (r:Int × Int × Int × List aT):Prop:=
 ∃ra rc,e=.returned (.tuple #[.agg #[VI r.2.1,VU r.2.2.1,.slice ra r.2.2.2.length rc],jg r.1])∧w'.ownsRow base 248 3 (.slice ra r.2.2.2.length rc) r.2.2.2.length (js r.2.2.2)
def AI (w:World) (p:Nat):Nat:=match w.cell? (AD p 0) with
 | some v=>(intOf v).toNat
 | none=>0
def SrcAt (w:World) (sv:Value) (zs:List Int):Prop:=
 ∃d x a len cap,sv=.iface d x∧(∀u,Bw w u->(method 414 d x "loop.example/s0051/impl.entryAt").run Tryz.prog u=.ok (218,.slice a len cap) u)∧Byt w a len zs∧len<=1048576
theorem SrcAt.keep {w w':World} {sv:Value} {zs:List Int} (h:SrcAt w sv zs) (hb:Bw w w'):SrcAt w' sv zs:=by
 obtain ⟨d,x,a,len,cap,rfl,hm,hB,hl⟩:=h;exact ⟨d,x,a,len,cap,rfl,fun u hu=>hm u (bst hb hu),hB.keep hb,hl⟩
theorem SrcAt.bd {w:World} {sv:Value} {zs:List Int} (h:SrcAt w sv zs):∀i:Nat,0<=zs[i]?.getD 0∧zs[i]?.getD 0<=255:=by
 obtain ⟨d,x,a,len,cap,rfl,hm,hB,hl⟩:=h;exact hB.2.1
theorem oJ:∀a b:List aT,js (a++b)=js a++js b
 | [],b=>rfl
 | r::a,b=>by simp [js,oJ a b]
theorem rK (sv:Value) (zs:List Int) (va n:Int) (l:Nat) (w:World) (hB:SrcAt w sv zs) (hl:l<=2) (hv0:0<=va) (hv1:va<=18446744073709551615) (hn0:0<=n) (hn1:n<17592186044416):
 Calls Tryz.prog 188 #[sv,VU n,VI l,VU va] w fun e w'=>Ad w.heap.size w' e (ag zs va l n)∧Bw w w':=by
 obtain ⟨dT,xS,a,len,cap,rfl,hm,hB,hlen⟩:=hB;have hz:=hB.1;have hzb:=hB.2.1;have HB:=hid hB;have HMt:Hid _:=hm;obtain ⟨X,hX⟩:∃X,ag zs va l n=X:=⟨_,rfl⟩;have HX:Hid (X=vn [] (ag zs va l n)):=by show _=_;rw [<-hX];rfl
 rw [hX];clear hX hB hm;have s0:Hid (((w.alloc (Obj.cells #[VI 0,VU 0,SN] 296)).alloc (Obj.cells #[VI l,VU 0,SN] 296)).heap[w.heap.size+1]?=some (.cells #[VI l,VU 0,SN] 296 (0,0))):=by
  have:=F6 (w.alloc (Obj.cells #[VI 0,VU 0,SN] 296)) (Obj.cells #[VI l,VU 0,SN] 296);simp only [World.size_alloc] at this;exact this
 have r0:Hid (((w.alloc (Obj.cells #[VI 0,VU 0,SN] 296)).alloc (Obj.cells #[VI l,VU 0,SN] 296)).heap[w.heap.size]?=some (.cells #[VI 0,VU 0,SN] 296 (0,0))):=by
  show _=_;rw [F7 _ _ (by simp)];exact F6 w _
 have b0:Bw w ((w.alloc (Obj.cells #[VI 0,VU 0,SN] 296)).alloc (Obj.cells #[VI l,VU 0,SN] 296)):=((Below.refl w.heap.size w).alloc nle _).alloc (by simp) _;go_enter Tryz.func188,Tryz.ntmps188;go_wp2;go_loopw [1] (fun tt wr=>∃(k:Nat) (n':Int) (ra:Option Addr) (rc:Nat) (acc:List aT),k<=l∧tt=VU n'∧0<=n'∧n'<17592186044416∧acc.length+k<=2∧wr.heap[w.heap.size+1]?=some (.cells #[VI k,VU 0,.slice ra acc.length rc] 296 (0,0))∧
  wr.heap[w.heap.size]?=some (.cells #[VI 0,VU 0,SN] 296 (0,0))∧wr.ownsRow (w.heap.size+2) 248 3 (.slice ra acc.length rc) acc.length (js acc)∧Hid (X=vn acc (ag zs va k n'))∧Bw w wr) (fun _ wr=>AI wr (w.heap.size+1))
 case atStart=>exact ⟨l,n,none,0,[],nle,rfl,hn0,hn1,by simpa using hl,s0.out,r0.out,World.ownsRow_nil _ _ _ _,HX,b0⟩
 case round=>
  clear s0 r0 b0 HX hn0 hn1;obtain ⟨k,n',ra,rc,acc,hk,rfl,hn0,hn1,hac,hS,hR,hO,HX,hb⟩:=hrel;have HS:=hid hS;have HR:=hid hR;have HO:=hid hO;have hlt:=(hpl hS);have HM:Hid (AI wr (w.heap.size+1)=k):=by
   show _=_;rw [AI,(ij hS).1.1];rfl
  obtain ⟨⟨c0,c1,c2⟩,e0,e1,e2⟩:=ij hS;clear hS hR hO;obtain ⟨ix,hix⟩:∃ix,az va (k:Int)=ix:=⟨_,rfl⟩;have hib:=tA va (k:Int);rw [hix] at hib;obtain ⟨rv,hrv⟩:∃rv,rdV zs (64*n'+8*ix) 8=rv:=⟨_,rfl⟩;have hrb:=qY zs (64*n'+8*ix) 8 (by omega) hzb;rw [hrv] at hrb;have HI:=hid hix;have HV:Hid (rdV zs (64*n'+8*ix) 8=rv):=hrv;clear hix hrv;go_wp2_with fail;refine (xG n' k va wr hv0 hv1 (by omega) hn0 hn1).mono ?_;rintro e w' ⟨rfl,nq,rfl⟩;rw [HI.out];have HS1:Hid ((wr.drewN nq).heap[w.heap.size+1]?=some (.cells #[VI k,VU 0,.slice ra acc.length rc] 296 (0,0))):=HS;have HR1:Hid ((wr.drewN nq).heap[w.heap.size]?=some (.cells #[VI 0,VU 0,SN] 296 (0,0))):=HR;have HO1:Hid ((wr.drewN nq).ownsRow (w.heap.size+2) 248 3 (.slice ra acc.length rc) acc.length (js acc)):=HO;have hlt1:w.heap.size+1<(wr.drewN nq).heap.size:=hlt;have hb1:Bw w (wr.drewN nq):=below_drewN hb nq;generalize wr.drewN nq=v1 at HS1 HR1 HO1 hlt1 hb1 |-;clear c0 c1 c2 e0 e1 e2 HS HR HO hlt hb;obtain ⟨⟨c0,c1,c2⟩,e0,e1,e2⟩:=ij HS1.out;obtain ⟨⟨d0,d1,d2⟩,f0,f1,f2⟩:=ij HR1.out;have hm:=HMt.out v1 hb1;cases hg:kc len (64*n'+8*ix) 8
  ·have HG:Hid (kc len (64*n'+8*ix) 8=false):=hg;clear hg;go_wp2_with fail;refine (zl a len cap (64*n'+8*ix) v1 hlen (by omega) (by omega) HG.out).mono ?_;rintro e w' ⟨rfl,rfl⟩;go_wp2_with fail;have hX:X=(3,(k:Int),0,acc):=by
    rw [HX.out,eS zs va k n' (by rw [hz,HI.out];exact HG.out)];simp [vn]
   refine bodyPost_ret (v:=.tuple #[.agg #[VI k,VU 0,.slice ra acc.length rc],.iface 269 (.agg #[])]) (by simp [results,Tryz.results188,go_sem,d0,d1,d2]) rfl ?_;rw [hX];exact ⟨⟨ra,rc,rfl,ir (aD HO1.out (gb3 _ w.heap.size _ _ _) (by omega)) (by omega)⟩,lA hb1 nle _ _ _⟩
  ·have HG:Hid (kc len (64*n'+8*ix) 8=true):=hg;clear hg;go_wp2_with fail;refine (Ak a len cap zs (64*n'+8*ix) v1 (HB.out.keep hb1) hlen (by omega) (by omega) HG.out).mono ?_;rintro e w' ⟨rfl,rfl⟩;rw [HV.out];rcases eN rv (k:Int) with hkd | hkd | hkd
   ·have HK:Hid (aq rv (k:Int)=0):=hkd;clear hkd;go_wp2_with fail;refine (rJ rv k _ hrb.1 hrb.2).mono ?_;rintro e w' ⟨rfl,rfl⟩;rw [HK.out];go_wp2_with fail;have hX:X=(2,(k:Int),0,acc):=by
     rw [HX.out,eT zs va k n' (by rw [hz,HI.out];exact HG.out) (by rw [HI.out,HV.out];exact HK.out)];simp [vn]
    refine bodyPost_ret (v:=.tuple #[.agg #[VI k,VU 0,.slice ra acc.length rc],.iface 268 (.agg #[])]) (by simp [results,Tryz.results188,go_sem,d0,d1,d2]) rfl ?_;rw [hX];exact ⟨⟨ra,rc,rfl,ir (aD HO1.out (gb3 _ w.heap.size _ _ _) (by omega)) (by omega)⟩,lA hb1 nle _ _ _⟩
   ·have HK:Hid (aq rv (k:Int)=1):=hkd;clear hkd;go_wp2_with fail;refine (rJ rv k _ hrb.1 hrb.2).mono ?_;rintro e v3 ⟨rfl,rfl⟩;rw [HK.out];have n4:=(Below.refl v3.heap.size v3).alloc nle (Obj.cells #[VI k,VU (64*n'+8*ix),VU rv] 248);have HS4:Hid ((v3.alloc (Obj.cells #[VI k,VU (64*n'+8*ix),VU rv] 248)).heap[w.heap.size+1]?=some (.cells #[VI k,VU 0,.slice ra acc.length rc] 296 (0,0))):=ae HS1.out n4 hlt1;have HR4:Hid ((v3.alloc (Obj.cells #[VI k,VU (64*n'+8*ix),VU rv] 248)).heap[w.heap.size]?=some (.cells #[VI 0,VU 0,SN] 296 (0,0))):=ae HR1.out n4 (by omega);have HO4:Hid ((v3.alloc (Obj.cells #[VI k,VU (64*n'+8*ix),VU rv] 248)).ownsRow (w.heap.size+2) 248 3 (.slice ra acc.length rc) acc.length (js acc)):=ab HO1.out n4;have HW4:Hid (RowC (v3.alloc (Obj.cells #[VI k,VU (64*n'+8*ix),VU rv] 248)) (some (AD v3.heap.size 0)) 1 3 (js [((k:Int),64*n'+8*ix,rv)])):=(OwnC.new 248 3 v3 (js [((k:Int),64*n'+8*ix,rv)]) 1 (by rfl) (by decide)).row;have l4:v3.heap.size<(v3.alloc (Obj.cells #[VI k,VU (64*n'+8*ix),VU rv] 248)).heap.size:=by simp
    have b4:Bw w (v3.alloc (Obj.cells #[VI k,VU (64*n'+8*ix),VU rv] 248)):=hb1.alloc (by omega) _;go_wp2_with (at_builtin;refine pV _ rfl (.tmp 43) (.tmp 49) 236 rfl 248 Tryz.underlying236 (.agg #[VI 0,VU 0,VU 0]) 3 24 Tryz.infoRec rfl (by decide) (w.heap.size+2) acc.length _ (js acc) rfl HO4.out v3.heap.size 0 1 1 (js [((k:Int),64*n'+8*ix,rv)]) rfl (by omega) HW4.out (ql _) (by omega) (by omega) (by omega) (w.heap.size+2) _ brf nle ?_;intro g5 cp5 v5 o5 n5;have HO5:Hid (v5.ownsRow (w.heap.size+2) 248 3 (SL g5 (acc.length+1) cp5) (acc.length+1) (js acc++js [((k:Int),64*n'+8*ix,rv)])):=o5;have HS5:Hid (v5.heap[w.heap.size+1]?=some (.cells #[VI k,VU 0,.slice ra acc.length rc] 296 (0,0))):=(n5.block _ (by omega)).trans HS4.out;have HR5:Hid (v5.heap[w.heap.size]?=some (.cells #[VI 0,VU 0,SN] 296 (0,0))):=(n5.block _ (by omega)).trans HR4.out;have b5:Bw w v5:=b4.trans (n5.mono (by omega));have l5:=n5.size;clear c0 c1 c2 e0 e1 e2 d0 d1 d2 f0 f1 f2 o5;obtain ⟨⟨c0,c1,c2⟩,e0,e1,e2⟩:=ij HS5.out;obtain ⟨⟨d0,d1,d2⟩,f0,f1,f2⟩:=ij HR5.out;clear n5 n4 HS4 HR4 HO4 HW4 b4 HS1 HR1 HO1);have HS6:Hid ((v5.setCell ⟨w.heap.size+1,2,none⟩ (SL g5 (acc.length+1) cp5)).heap[w.heap.size+1]?=some (.cells #[VI k,VU 0,SL g5 (acc.length+1) cp5] 296 (0,0))):=EI HS5.out;have m6:=hZ (aM v5 (some (w.heap.size+1))) 2 (SL g5 (acc.length+1) cp5);have HR6:Hid ((v5.setCell ⟨w.heap.size+1,2,none⟩ (SL g5 (acc.length+1) cp5)).heap[w.heap.size]?=some (.cells #[VI 0,VU 0,SN] 296 (0,0))):=aL HR5.out m6 (by omega);have HO6:Hid ((v5.setCell ⟨w.heap.size+1,2,none⟩ (SL g5 (acc.length+1) cp5)).ownsRow (w.heap.size+2) 248 3 (SL g5 (acc.length+1) cp5) (acc.length+1) (js acc++js [((k:Int),64*n'+8*ix,rv)])):=aD HO5.out m6 (by omega);have b6:=b5.setCell (p:=⟨w.heap.size+1,2,none⟩) (by show w.heap.size<=w.heap.size+1;omega) (SL g5 (acc.length+1) cp5);refine (xg rv _ hrb.1 hrb.2).mono ?_;rintro e w' ⟨rfl,rfl⟩;generalize v5.setCell ⟨w.heap.size+1,2,none⟩ (SL g5 (acc.length+1) cp5)=v6 at HS6 HR6 HO6 b6 |-;clear c0 c1 c2 e0 e1 e2 d0 d1 d2 f0 f1 f2 m6 HS5 HR5 HO5 b5;obtain ⟨⟨c0,c1,c2⟩,e0,e1,e2⟩:=ij HS6.out;have hpb:=tB rv;obtain ⟨pp,hpp⟩:∃pp,jU rv=pp:=⟨_,rfl⟩;have HP:Hid (jU rv=pp):=hpp;rw [hpp] at hpb |-;clear hpp;obtain ⟨k',rfl⟩:∃k',k=k'+1:=by
     cases k with
     | zero=>exact absurd HK.out (cF _)
     | succ k'=>exact ⟨k',rfl⟩
    go_wp2;go_roundw
    case rel=>
     refine ⟨k',pp,some (AD g5 0),cp5,acc++[(((k'+1:Nat):Int),64*n'+8*ix,rv)],by omega,rfl,hpb.1,hpb.2,by simp;omega,?_,?_,?_,?_,?_⟩
     ·rw [show (acc++[(((k'+1:Nat):Int),64*n'+8*ix,rv)]).length=acc.length+1 by simp,show ((k':Nat):Int)=((k'+1:Nat):Int)-1 by omega];exact EH HS6.out
     ·exact aL HR6.out (hZ (aM v6 (some (w.heap.size+1))) 0 _) (by omega)
     ·rw [show (acc++[(((k'+1:Nat):Int),64*n'+8*ix,rv)]).length=acc.length+1 by simp,oJ];exact aD HO6.out (hZ (aM v6 (some (w.heap.size+1))) 0 _) (by omega)
     ·show _=_;rw [HX.out,un zs va k' n' (by rw [hz,HI.out];exact HG.out) (by rw [HI.out,HV.out];exact HK.out),Dc,HI.out,HV.out,HP.out]
     ·exact b6.setCell (p:=⟨w.heap.size+1,0,none⟩) (by show w.heap.size<=w.heap.size+1;omega) _
    case measure=>
     rw [HM.out,AI,(ij (EH HS6.out)).1.1];simp [intOf]
   ·have HK:Hid (aq rv (k:Int)=2):=hkd;clear hkd;go_wp2_with fail;refine (rJ rv k _ hrb.1 hrb.2).mono ?_;rintro e v3 ⟨rfl,rfl⟩;rw [HK.out];have n4:=(Below.refl v3.heap.size v3).alloc nle (Obj.cells #[VI k,VU (64*n'+8*ix),VU rv] 248);have HS4:=hid (ae HS1.out n4 hlt1);have HR4:=hid (ae HR1.out n4 (by omega));have HO4:=hid (ab HO1.out n4);have HW4:=hid ((OwnC.new 248 3 v3 (js [((k:Int),64*n'+8*ix,rv)]) 1 (by rfl) (by decide)).row);have l4:v3.heap.size<(v3.alloc (Obj.cells #[VI k,VU (64*n'+8*ix),VU rv] 248)).heap.size:=by simp
    have b4:Bw w (v3.alloc (Obj.cells #[VI k,VU (64*n'+8*ix),VU rv] 248)):=hb1.alloc (by omega) _;go_wp2_with (at_builtin;refine pV _ rfl (.tmp 43) (.tmp 49) 236 rfl 248 Tryz.underlying236 (.agg #[VI 0,VU 0,VU 0]) 3 24 Tryz.infoRec rfl (by decide) (w.heap.size+2) acc.length _ (js acc) rfl HO4.out v3.heap.size 0 1 1 (js [((k:Int),64*n'+8*ix,rv)]) rfl (by omega) HW4.out (ql _) (by omega) (by omega) (by omega) (w.heap.size+2) _ brf nle ?_;intro g5 cp5 v5 o5 n5;have HO5:Hid (v5.ownsRow (w.heap.size+2) 248 3 (SL g5 (acc.length+1) cp5) (acc.length+1) (js acc++js [((k:Int),64*n'+8*ix,rv)])):=o5;have HS5:Hid (v5.heap[w.heap.size+1]?=some (.cells #[VI k,VU 0,.slice ra acc.length rc] 296 (0,0))):=(n5.block _ (by omega)).trans HS4.out;have HR5:Hid (v5.heap[w.heap.size]?=some (.cells #[VI 0,VU 0,SN] 296 (0,0))):=(n5.block _ (by omega)).trans HR4.out;have b5:Bw w v5:=b4.trans (n5.mono (by omega));have l5:=n5.size;clear c0 c1 c2 e0 e1 e2 d0 d1 d2 f0 f1 f2 o5;obtain ⟨⟨c0,c1,c2⟩,e0,e1,e2⟩:=ij HS5.out;obtain ⟨⟨d0,d1,d2⟩,f0,f1,f2⟩:=ij HR5.out;clear n5 n4 HS4 HR4 HO4 HW4 b4 HS1 HR1 HO1);have hX:X=(1,(k:Int),rv,acc++[((k:Int),64*n'+8*ix,rv)]):=by
     rw [HX.out,um zs va k n' (by rw [hz,HI.out];exact HG.out) (by rw [HI.out,HV.out];exact HK.out),HI.out,HV.out];rfl
    refine bodyPost_ret (v:=.tuple #[.agg #[VI k,VU rv,SL g5 (acc.length+1) cp5],.nilIface]) (by simp [results,Tryz.results188,go_sem,d0,d1,d2]) rfl ?_;rw [hX];refine ⟨⟨some (AD g5 0),cp5,?_,?_⟩,lA ((b5.setCell (p:=⟨w.heap.size+1,2,none⟩) (by show w.heap.size<=w.heap.size+1;omega) _).setCell (p:=⟨w.heap.size+1,1,none⟩) (by show w.heap.size<=w.heap.size+1;omega) _) nle _ _ _⟩
    ·simp [jg]
    ·rw [show (acc++[((k:Int),64*n'+8*ix,rv)]).length=acc.length+1 by simp,oJ];exact ir (aD (aD HO5.out (hZ (hZ (aM v5 (some (w.heap.size+1))) 2 _) 1 _) (by omega)) (gb3 _ w.heap.size _ _ _) (by omega)) (by omega)
theorem uJ (va l:Int) (hl:l=0∨l=1∨l=2):0<=cW va l∧cW va l<=511:=by
 rcases hl with rfl | rfl | rfl <;> simp only [cW] <;> (try simp) <;> omega
theorem Et {t:TlbM} {p:Bool} {va asid l:Int} {q:Nat} {x:EntM} (hv:ah t p=true) (hx:t.es[q]?=some x) (hh:gt va asid l x=true):(q:Int)/t.ways=cW va l%t.sets:=by
 have hp:=bU hv q x hx;simp only [gt,ew,Bool.and_eq_true,beq_iff_eq] at hh;obtain ⟨h1,⟨h2,h3⟩,_⟩:=hh;simp only [aQ,Bool.or_eq_true,Bool.and_eq_true,beq_iff_eq] at hp;rcases hp with hp | hp
 ·rw [h2] at hp;simp at hp
 ·rw [<-hp.2,h3,h1]
theorem yV {t:TlbM} {p:Bool} (hv:ah t p=true):(t.sets=1∨t.sets=2∨t.sets=4∨t.sets=8)∧1<=t.ways∧t.ways<=4∧(t.es.length:Int)=t.sets*t.ways:=bT hv
theorem xD {t:TlbM} {p:Bool} {va asid l:Int} {q f:Nat} {x:EntM} (hv:ah t p=true) (hx:t.es[q]?=some x) (hf:(f:Int)=cW va l%t.sets*t.ways) (hq:q<f∨(f:Int)+t.ways<=q):gt va asid l x=false:=by
 cases hh:gt va asid l x
 ·rfl
 ·exfalso;have h1:=Et hv hx hh;obtain ⟨_,w1,w4,_⟩:=yV hv;rw [<-h1] at hf;rcases (show t.ways=1∨t.ways=2∨t.ways=3∨t.ways=4 by omega) with hw | hw | hw | hw <;> rw [hw] at hf hq <;> omega
theorem BQ {t:TlbM} {p:Bool} {va asid l:Int} {f:Nat} (hv:ah t p=true) (hf:(f:Int)=cW va l%t.sets*t.ways)
 (h:∀(j:Nat) x,(j:Int)<t.ways->t.es[f+j]?=some x->gt va asid l x=false):ke va asid l 0 t.es=none:=by
 refine qT va asid l t.es 0 (fun j x hx=>?_);by_cases h1:j<f
 ·exact xD hv hx hf (.inl h1)
 ·by_cases h2:(f:Int)+t.ways<=j
  ·exact xD hv hx hf (.inr h2)
  ·exact h (j-f) x (by omega) (by rw [show f+(j-f)=j by omega];exact hx)
theorem BR {t:TlbM} {p:Bool} {va asid l:Int} {f k:Nat} {x:EntM} (hv:ah t p=true) (hf:(f:Int)=cW va l%t.sets*t.ways) (hx:t.es[f+k]?=some x) (hh:gt va asid l x=true)
 (h:∀(j:Nat) y,j<k->t.es[f+j]?=some y->gt va asid l y=false):ke va asid l 0 t.es=some (f+k,x):=by
 have:=qU va asid l t.es 0 (f+k) x hx hh (fun j y hj hy=>by
  by_cases h1:j<f
  ·exact xD hv hy hf (.inl h1)
  ·exact h (j-f) y (by omega) (by rw [show f+(j-f)=j by omega];exact hy))
 rw [Nat.zero_add] at this;exact this
theorem de (va asid l:Int):∀(es:List EntM) (i k:Nat) (x:EntM),ke va asid l i es=some (k,x)->∃j,k=i+j∧es[j]?=some x∧gt va asid l x=true
 | [],i,k,x,h=>by cases h
 | e::r,i,k,x,h=>by
  rw [ke] at h;split at h
  ·rename_i hh;cases h;exact ⟨0,rfl,rfl,hh⟩
  ·obtain ⟨j,rfl,h2,h3⟩:=de va asid l r (i+1) k x h;exact ⟨j+1,by omega,by simpa using h2,h3⟩
theorem qz (t:TlbM) (va asid:Int) (h:(aj t va asid).1=true):∃(k:Nat) (x:EntM),t.es[k]?=some x∧(aj t va asid).2.1=(k:Int)∧(aj t va asid).2.2.1=x.level∧(aj t va asid).2.2.2=x.pte∧ew x va asid=true∧x.valid=true:=by
 have key:∀(l:Int) (k:Nat) (x:EntM),ke va asid l 0 t.es=some (k,x)->t.es[k]?=some x∧l=x.level∧ew x va asid=true∧x.valid=true:=by
  intro l k x hf;obtain ⟨j,rfl,h2,h3⟩:=de va asid l t.es 0 k x hf;simp only [gt,Bool.and_eq_true,beq_iff_eq] at h3;have hv:x.valid=true:=by
   have:=h3.2;simp only [ew,Bool.and_eq_true] at this;exact this.1.1
  exact ⟨by rw [Nat.zero_add];exact h2,h3.1.symm,h3.2,hv⟩
 unfold aj at h |-;split at h
 ·cases h
 ·rename_i he;rw [if_neg he];cases h0:ke va asid 0 0 t.es with
  | some y=>
   obtain ⟨k,x⟩:=y;obtain ⟨a1,a2,a3,a4⟩:=key 0 k x h0;exact ⟨k,x,a1,by simp [aX],by simp [aX,<-a2],by simp [aX],a3,a4⟩
  | none=>
   cases h1:ke va asid 1 0 t.es with
   | some y=>
    obtain ⟨k,x⟩:=y;obtain ⟨a1,a2,a3,a4⟩:=key 1 k x h1;exact ⟨k,x,a1,by simp [aX],by simp [aX,<-a2],by simp [aX],a3,a4⟩
   | none=>
    cases h2:ke va asid 2 0 t.es with
    | some y=>
     obtain ⟨k,x⟩:=y;obtain ⟨a1,a2,a3,a4⟩:=key 2 k x h2;exact ⟨k,x,a1,by simp [aX],by simp [aX,<-a2],by simp [aX],a3,a4⟩
    | none=>
     rw [h0,h1,h2] at h;simp [aX] at h
theorem yW {t:TlbM} {va asid i l pt:Int} (h:aj t va asid=(false,i,l,pt)):(i,l,pt)=(0,0,0):=by
 unfold aj at h;split at h
 ·cases h;rfl
 ·cases h0:ke va asid 0 0 t.es with
  | some y=>simp [h0,aX] at h
  | none=>
   cases h1:ke va asid 1 0 t.es with
   | some y=>simp [h0,h1,aX] at h
   | none=>
    cases h2:ke va asid 2 0 t.es with
    | some y=>simp [h0,h1,h2,aX] at h
    | none=>
     simp [h0,h1,h2,aX] at h;obtain ⟨rfl,rfl,rfl⟩:=h;rfl
def db (r:Int × Int × Int × List aT) (k:Nat) (ps:List aT):Prop:=
 (∀p∈ps,aq p.2.2 p.1=1∧0<=p.1∧p.1<=k∧0<=p.2.2∧p.2.2<=18446744073709551615)∧
 ((r.1=1∧(∃ad,r.2.2.2=ps++[(r.2.1,ad,r.2.2.1)])∧aq r.2.2.1 r.2.1=2∧0<=r.2.1∧r.2.1<=k∧0<=r.2.2.1∧r.2.2.1<=18446744073709551615)∨((r.1=2∨r.1=3)∧r.2.2.2=ps∧r.2.2.1=0))
theorem zT (level:Int):aq 0 level≠2:=by
 unfold aq;split
 ·decide
 ·simp [aS];split <;> omega
theorem pF (zs:List Int) (va:Int) (hz:∀i:Nat,0<=zs[i]?.getD 0∧zs[i]?.getD 0<=255):∀(k:Nat) (n:Int),∃ps,db (ag zs va k n) k ps∧ps.length<=k
 | k,n=>by
  cases hg:kc zs.length (64*n+8*az va k) 8
  ·rw [eS zs va k n hg];exact ⟨[],⟨by simp,.inr ⟨.inr rfl,rfl,rfl⟩⟩,by simp⟩
  ·have hb:=qY zs (64*n+8*az va k) 8 (by omega) hz;rcases eN (rdV zs (64*n+8*az va k) 8) (k:Int) with hk | hk | hk
   ·rw [eT zs va k n hg hk];exact ⟨[],⟨by simp,.inr ⟨.inl rfl,rfl,rfl⟩⟩,by simp⟩
   ·cases k with
    | zero=>exact absurd hk (cF _)
    | succ k'=>
     rw [un zs va k' n hg hk];obtain ⟨ps,⟨h1,h2⟩,h3⟩:=pF zs va hz k' (jU (rdV zs (64*n+8*az va ((k'+1:Nat):Int)) 8));refine ⟨(((k'+1:Nat):Int),64*n+8*az va ((k'+1:Nat):Int),rdV zs (64*n+8*az va ((k'+1:Nat):Int)) 8)::ps,⟨?_,?_⟩,by simp;omega⟩
     ·intro p hp;rcases List.mem_cons.1 hp with rfl | hp
      ·exact ⟨hk,by simp only;omega,by simp only;omega,hb.1,hb.2⟩
      ·obtain ⟨q1,q2,q3,q4⟩:=h1 p hp;exact ⟨q1,q2,by omega,q4⟩
     ·simp only [vn];rcases h2 with ⟨e1,⟨ad,e2⟩,e3,e4,e5,e6⟩ | ⟨e1,e2,e3⟩
      ·exact .inl ⟨e1,⟨ad,by rw [e2];rfl⟩,e3,e4,by omega,e6⟩
      ·exact .inr ⟨e1,by rw [e2];rfl,e3⟩
   ·rw [um zs va k n hg hk];exact ⟨[],⟨by simp,.inl ⟨rfl,⟨_,rfl⟩,hk,by simp only;omega,Int.le_refl _,hb.1,hb.2⟩⟩,by simp⟩
theorem dJ (zs:List Int) (root va:Int) (hz:∀i:Nat,0<=zs[i]?.getD 0∧zs[i]?.getD 0<=255):∃ps,db (aB zs root va) 2 ps∧ps.length<=2:=by
 unfold aB;split
 ·exact ⟨[],⟨by simp,.inr ⟨.inl rfl,rfl,rfl⟩⟩,by simp⟩
 ·exact pF zs va hz 2 _
theorem dX {r:Int × Int × Int × List aT} {k k':Nat} {ps:List aT} (h:db r k ps) (hk:k<=k'):db r k' ps:=by
 obtain ⟨h1,h2⟩:=h;refine ⟨fun p hp=>?_,?_⟩
 ·obtain ⟨q1,q2,q3,q4⟩:=h1 p hp;exact ⟨q1,q2,by omega,q4⟩
 ·rcases h2 with ⟨e1,e2,e3,e4,e5,e6⟩ | h2
  ·exact .inl ⟨e1,e2,e3,e4,by omega,e6⟩
  ·exact .inr h2
theorem cV (zs:List Int) (satp va:Int) (t:TlbM) (asid:Int) (ht:ah t true=true) (hz:∀i:Nat,0<=zs[i]?.getD 0∧zs[i]?.getD 0<=255):∃ps,db (iG zs satp va (aj t va asid)) 2 ps∧ps.length<=2:=by
 unfold iG;split
 ·rename_i hf;obtain ⟨q,x,h1,h2,h3,h4,h5,h6⟩:=qz t va asid hf;have hl:=bL (jZ ht) q x h1 h6;have hle:((aj t va asid).2.2.1-1).toNat<=2:=by rw [h3];omega
  obtain ⟨ps,a1,a2⟩:=pF zs va hz ((aj t va asid).2.2.1-1).toNat (jU (aj t va asid).2.2.2);exact ⟨ps,dX a1 hle,by omega⟩
 ·exact dJ zs satp va hz
theorem mZ (va satp pick:Int):∀(a b:List aT) (p:TlbM),ji va satp pick (a++b) p=ji va satp pick b (ji va satp pick a p)
 | [],b,p=>rfl
 | r::a,b,p=>by
  rw [List.cons_append,ji,ji];exact mZ va satp pick a b _
theorem dY (t:TlbM) (e:EntM) (pick:Int):(aC t e pick).es.length=t.es.length∧(aC t e pick).sets=t.sets∧(aC t e pick).ways=t.ways:=by
 unfold aC;split
 ·simp
 ·exact ⟨rfl,rfl,rfl⟩
theorem pG (va satp pick:Int):∀(rs:List aT) (p:TlbM),(ji va satp pick rs p).es.length=p.es.length∧(ji va satp pick rs p).sets=p.sets∧(ji va satp pick rs p).ways=p.ways
 | [],p=>⟨rfl,rfl,rfl⟩
 | r::rs,p=>by
  rw [ji];have ih:=pG va satp pick rs (if aq r.2.2 r.1=1 then aC p (cN r.1 va satp r.2.2) pick else p);split at ih
  ·rename_i hk;rw [if_pos hk];have h:=dY p (cN r.1 va satp r.2.2) pick;exact ⟨ih.1.trans h.1,ih.2.1.trans h.2.1,ih.2.2.trans h.2.2⟩
  ·rename_i hk;rw [if_neg hk];exact ih
theorem zU {r:Int × Int × Int × List aT} {k:Nat} {ps:List aT} (va satp pick:Int) (p:TlbM) (h:db r k ps):ji va satp pick r.2.2.2 p=ji va satp pick ps p:=by
 rcases h.2 with ⟨_,⟨ad,e⟩,hk,_⟩ | ⟨_,e,_⟩
 ·rw [e,mZ];rw [ji,ji,if_neg (by simp only;omega)]
 ·rw [e]
theorem xK (t:TlbM) (va asid:Int) (he:∀e∈t.es,bO e) (h:(aj t va asid).1=true):(0<=(aj t va asid).2.2.2∧(aj t va asid).2.2.2<=18446744073709551615)∧(-9223372036854775808<=(aj t va asid).2.2.1∧(aj t va asid).2.2.1<=9223372036854775807):=by
 obtain ⟨k,x,hx,_,hl,hp,_⟩:=qz t va asid h;have hk:=he x (List.mem_of_getElem? hx);rw [hl,hp];exact ⟨hk.2.2.2,hk.1⟩
theorem eU (zs:List Int) (root va:Int):(aB zs root va).2.2.2.length<=3:=by
 unfold aB;split
 ·simp
 ·exact qy zs va 2 _
structure WalkLim (r:Int × Int × Int × List aT):Prop where
 len:r.2.2.2.length<=3
 pte:0<=r.2.2.1∧r.2.2.1<=18446744073709551615
 level:0<=r.2.1∧r.2.1<=2
 recs:∀x∈r.2.2.2,(0<=x.1∧x.1<=2)∧0<=x.2.2∧x.2.2<=18446744073709551615
theorem cJ {r:Int × Int × Int × List aT} {ps:List aT} (h:db r 2 ps):∀x∈r.2.2.2,(0<=x.1∧x.1<=2)∧0<=x.2.2∧x.2.2<=18446744073709551615:=by
 obtain ⟨h1,h2⟩:=h;intro x hx;rcases h2 with ⟨_,⟨ad,e⟩,_,e4,e5,e6,e7⟩ | ⟨_,e,_⟩
 ·rw [e] at hx;rcases List.mem_append.1 hx with hx | hx
  ·obtain ⟨_,q2,q3,q4,q5⟩:=h1 x hx;exact ⟨⟨q2,by omega⟩,q4,q5⟩
  ·have:x=(r.2.1,ad,r.2.2.1):=by simpa using hx
   subst this;exact ⟨⟨e4,by omega⟩,e6,e7⟩
 ·rw [e] at hx;obtain ⟨_,q2,q3,q4,q5⟩:=h1 x hx;exact ⟨⟨q2,by omega⟩,q4,q5⟩
theorem dp (zs:List Int) (satp va:Int) (t:TlbM) (asid:Int) (ht:ah t true=true) (he:∀e∈t.es,bO e) (hz:∀i:Nat,0<=zs[i]?.getD 0∧zs[i]?.getD 0<=255):
 ((aj t va asid).1=true->∃l:Nat,(aj t va asid).2.2.1=(l:Int)+1∧l<=1∧0<=(aj t va asid).2.2.2∧(aj t va asid).2.2.2<=18446744073709551615∧iG zs satp va (aj t va asid)=ag zs va l (jU (aj t va asid).2.2.2))∧
 ((aj t va asid).1=false->iG zs satp va (aj t va asid)=aB zs satp va)∧WalkLim (iG zs satp va (aj t va asid)):=by
 obtain ⟨ps,hs,_⟩:=cV zs satp va t asid ht hz;cases hf:(aj t va asid).1
 ·have e:iG zs satp va (aj t va asid)=aB zs satp va:=by rw [iG,if_neg (by rw [hf];simp)]
  have hb:=uu zs satp va hz;refine ⟨fun h=>(by cases h),fun _=>e,?_⟩;have hr:=cJ hs;rw [e] at hr |-;exact ⟨eU zs satp va,⟨hb.1,hb.2.1⟩,hb.2.2,hr⟩
 ·obtain ⟨q,x,h1,h2,h3,h4,h5,h6⟩:=qz t va asid hf;have hl:=bL (jZ ht) q x h1 h6;have hpl:=bU ht q x h1;have hlim:=(xK t va asid he hf).1;have hk1:x.level≠0:=by
   intro h0;have hg:iB x true=true:=by
    simp only [aQ,Bool.or_eq_true,Bool.and_eq_true] at hpl;have h7:iB x true=true∧x.tag%t.sets=q/t.ways:=by simpa [h6] using hpl
    exact h7.1
   have:=eZ hg;rw [h0] at this;exact cF _ this
  have e:iG zs satp va (aj t va asid)=ag zs va ((aj t va asid).2.2.1-1).toNat (jU (aj t va asid).2.2.2):=by rw [iG,if_pos hf]
  have hb:=ut zs va hz ((aj t va asid).2.2.1-1).toNat (jU (aj t va asid).2.2.2) (by rw [h3];omega);refine ⟨fun _=>⟨((aj t va asid).2.2.1-1).toNat,by rw [h3];omega,by rw [h3];omega,hlim.1,hlim.2,e⟩,fun h=>(by cases h),?_⟩;have hr:=cJ hs;have hln:=qy zs va ((aj t va asid).2.2.1-1).toNat (jU (aj t va asid).2.2.2);rw [e] at hr |-;exact ⟨by rw [h3] at hln |-;omega,⟨hb.1,hb.2.1⟩,hb.2.2,hr⟩
end Go.Proofs.YtjdmhibnhpdjaaaGreat
