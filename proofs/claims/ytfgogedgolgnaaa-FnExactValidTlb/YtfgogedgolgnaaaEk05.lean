import Derived.Test.YtfgogedgolgnaaaEk04
namespace Go.Proofs.Ytfgogedgolgnaaa
open Go.RowKit
set_option linter.unusedVariables false
set_option maxHeartbeats 6400000
set_option maxRecDepth 20000
theorem bE (n m:Int) (w:World) (h:(n=0∧m=0)∨(n=3∧m=7)∨(n=6∧m=63)∨(n=9∧m=511)∨(n=12∧m=4095)∨(n=44∧m=17592186044415)∨(n=50∧m=1125899906842623)∨(n=15∧m=32767)∨(n=16∧m=65535)):
 Calls Try.prog 98 #[.int .i64 n] w fun e w'=>e=.returned (.int .u64 m)∧w'=w:=by
 rcases h with ⟨rfl,rfl⟩ | ⟨rfl,rfl⟩ | ⟨rfl,rfl⟩ | ⟨rfl,rfl⟩ | ⟨rfl,rfl⟩ | ⟨rfl,rfl⟩ | ⟨rfl,rfl⟩ | ⟨rfl,rfl⟩ | ⟨rfl,rfl⟩;all_goals
  go_enter Try.func98,Try.ntmps98;go_wp2_with fail;go_ret;exact ⟨rfl,rfl⟩
theorem bu (x m:Int) (w:World):
 Calls Try.prog 93 #[.int .u64 x,.int .u64 m] w fun e w'=>e=.returned (.bool (cX x m))∧w'=w:=by
 go_enter Try.func93,Try.ntmps93;go_wp2_with fail;go_ret;exact ⟨rfl,rfl⟩
theorem dW (x:Int) (w:World) (h0:0<=x) (h1:x<=18446744073709551615):
 Calls Try.prog 80 #[.int .u64 x] w fun e w'=>e=.returned (.bool (bm x))∧w'=w:=by
 have hm:x/16384%1125899906842624=x/16384:=Int.emod_eq_of_lt (Int.ediv_nonneg h0 (by omega)) (by omega);rw [bm,hm];clear hm;by_cases ht:x/16384=0
 ·have ht':(x/16384 == 0)=true:=by simp [ht]
  clear ht;go_enter Try.func80,Try.ntmps80;go_wp2_with fail;go_ret;exact ⟨by simp [ht'],rfl⟩
 ·have ht':(x/16384 == 0)=false:=by simpa using ht
  clear ht;go_enter Try.func80,Try.ntmps80;go_wp2_with (go_at_call 98;refine (bE 50 1125899906842623 _ (by omega)).mono ?_;rintro e w' ⟨rfl,rfl⟩);go_ret;exact ⟨by simp [ht'],rfl⟩
theorem fR (x:Int) (w:World) (h0:0<=x) (h1:x<=18446744073709551615):
 Calls Try.prog 120 #[.int .u64 x] w fun e w'=>e=.returned (.int .u64 (ch x))∧w'=w:=by
 have H:Hid (bits .and .u64 (x/1024) 17592186044415=ch x):=bX 44 (x/1024) 17592186044415 rfl (by omega) (by omega) (by omega);go_enter Try.func120,Try.ntmps120;go_wp2_with (go_at_call 98;refine (bE 44 17592186044415 _ (by omega)).mono ?_;rintro e w' ⟨rfl,rfl⟩);go_ret;exact ⟨cH H.out,rfl⟩
theorem dX (x:Int) (w:World) (h0:0<=x) (h1:x<=18446744073709551615):
 Calls Try.prog 119 #[.int .u64 x] w fun e w'=>e=.returned (.int .u64 (x/18014398509481984%1024))∧w'=w:=by
 have H:Hid (x/18014398509481984=x/18014398509481984%1024):=show _=_ by omega
 go_enter Try.func119,Try.ntmps119;go_wp2_with fail;go_ret;exact ⟨cH H.out,rfl⟩
def dt (x:Int):Bool:=aK x 1 && (x/18014398509481984%1024 == 0) && !(aK x 4 && !aK x 2)
theorem ck (x:Int) (w:World) (h0:0<=x) (h1:x<=18446744073709551615):
 Calls Try.prog 117 #[.int .u64 x] w fun e w'=>e=.returned (.bool (dt x))∧w'=w:=by
 have HV:Hid (cX x 1=aK x 1):=bp 0 x 1 rfl (by omega) h0 h1;have HR:Hid (cX x 2=aK x 2):=bp 1 x 2 rfl (by omega) h0 h1;have HW:Hid (cX x 4=aK x 4):=bp 2 x 4 rfl (by omega) h0 h1;cases hw:aK x 4 <;> cases hr:aK x 2 <;> cases hv:aK x 1;all_goals
  go_enter Try.func117,Try.ntmps117;go_wp2_with (first
   | (go_at_call 93;refine (bu x _ _).mono ?_;rintro e w' ⟨rfl,rfl⟩;first | rw [HW.out,hw] | rw [HR.out,hr] | rw [HV.out,hv])
   | (go_at_call 119;refine (dX x _ h0 h1).mono ?_;rintro e w' ⟨rfl,rfl⟩))
  all_goals
   go_ret;exact ⟨aj (by simp [dt,hw,hr,hv];try assumption),rfl⟩
theorem du (x level:Int) (w:World) (h0:0<=x) (h1:x<=18446744073709551615) (hl:level=0∨level=1∨level=2):
 Calls Try.prog 118 #[.int .u64 x,.int .i64 level] w fun e w'=>e=.returned (.bool (ch x%bJ level == 0))∧w'=w:=by
 have hpp:0<=ch x∧ch x<17592186044416:=⟨Int.emod_nonneg _ (by omega),Int.emod_lt_of_pos _ (by omega)⟩;have HP:∀w,Hid (Calls Try.prog 120 #[.int .u64 x] w fun e w'=>e=.returned (.int .u64 (ch x))∧w'=w):=fun w=>fR x w h0 h1;generalize ch x=p at *;rcases hl with rfl | rfl | rfl
 ·have H:Hid ((bits .and .u64 p 0 == 0)=(p%bJ 0 == 0)):=by
   show _=_;rw [bX 0 p 0 rfl (by omega) hpp.1 (by omega)];rfl
  go_enter Try.func118,Try.ntmps118;go_wp2_with (first
   | (go_at_call 120;refine ((HP _).out).mono ?_;rintro e w' ⟨rfl,rfl⟩)
   | (go_at_call 98;refine (bE 0 0 _ (by omega)).mono ?_;rintro e w' ⟨rfl,rfl⟩))
  go_ret;exact ⟨aj H.out,rfl⟩
 ·have H:Hid ((bits .and .u64 p 7 == 0)=(p%bJ 1 == 0)):=by
   show _=_;rw [bX 3 p 7 rfl (by omega) hpp.1 (by omega)];rfl
  go_enter Try.func118,Try.ntmps118;go_wp2_with (first
   | (go_at_call 120;refine ((HP _).out).mono ?_;rintro e w' ⟨rfl,rfl⟩)
   | (go_at_call 98;refine (bE 3 7 _ (by omega)).mono ?_;rintro e w' ⟨rfl,rfl⟩))
  go_ret;exact ⟨aj H.out,rfl⟩
 ·have H:Hid ((bits .and .u64 p 63 == 0)=(p%bJ 2 == 0)):=by
   show _=_;rw [bX 6 p 63 rfl (by omega) hpp.1 (by omega)];rfl
  go_enter Try.func118,Try.ntmps118;go_wp2_with (first
   | (go_at_call 120;refine ((HP _).out).mono ?_;rintro e w' ⟨rfl,rfl⟩)
   | (go_at_call 98;refine (bE 6 63 _ (by omega)).mono ?_;rintro e w' ⟨rfl,rfl⟩))
  go_ret;exact ⟨aj H.out,rfl⟩
theorem aJ (l:Int) (w:World):
 Calls Try.prog 91 #[.int .i64 l] w fun e w'=>e=.returned (.bool (decide (0<=l∧l<=2)))∧w'=w:=by
 by_cases h:0<=l
 ·go_enter Try.func91,Try.ntmps91;go_wp2_with fail;go_ret;exact ⟨aj (by simp [h]),rfl⟩
 ·go_enter Try.func91,Try.ntmps91;go_wp2_with fail;go_ret;exact ⟨aj (by simp;omega),rfl⟩
theorem fc (x level:Int) (w:World) (h0:0<=x) (h1:x<=18446744073709551615):
 Calls Try.prog 116 #[.int .u64 x,.int .i64 level] w fun e w'=>e=.returned (.int .i64 (aL x level))∧w'=w:=by
 by_cases hlev:0<=level∧level<=2
 ·have hk:decide (0<=level∧level<=2)=true:=by simpa using hlev
  have HK:Hid (decide (0<=level∧level<=2)=true):=hk;have hl:level=0∨level=1∨level=2:=by omega
  clear hk hlev;have HR:Hid (cX x 14=(aK x 2 || aK x 4 || aK x 8)):=fq x h0 h1;have HU:Hid (cX x 208=(aK x 16 || aK x 64 || aK x 128)):=fr x h0 h1;cases hs:dt x
  ·have HE:Hid (aL x level=0):=by
    show _=_;simp only [aL];rw [if_pos];simp only [dt] at hs;cases hv:aK x 1
    ·simp
    ·rw [hv] at hs;by_cases hb:0<x/18014398509481984%1024
     ·simp [hb]
     ·have hb':x/18014398509481984%1024=0:=by omega
      rw [hb'] at hs |-;simp at hs;simp [hs]
   go_enter Try.func116,Try.ntmps116;go_wp2_with (first
    | (go_at_call 91;refine (aJ level _).mono ?_;rintro e w' ⟨rfl,rfl⟩;rw [HK.out])
    | (go_at_call 117;refine (ck x _ h0 h1).mono ?_;rintro e w' ⟨rfl,rfl⟩;rw [hs]))
   go_ret;exact ⟨aE HE.out.symm,rfl⟩
  ·have hn:¬(level<0∨2<level∨aK x 1=false∨0<x/18014398509481984%1024∨(aK x 4=true∧aK x 2=false)):=by
    simp only [dt,Bool.and_eq_true,beq_iff_eq,Bool.not_eq_true',Bool.and_eq_false_iff,Bool.not_eq_false'] at hs;obtain ⟨⟨a1,a2⟩,a3⟩:=hs;rw [a1,a2];rcases a3 with a3 | a3
    ·simp [a3];omega
    ·simp [a3];omega
   have HE:Hid (aL x level=if aK x 2=false∧aK x 4=false∧aK x 8=false then (if level=0∨aK x 16=true∨aK x 64=true∨aK x 128=true then 0 else 1) else if 0<ch x%bJ level then 0 else 2):=by
    show _=_;rw [aL,if_neg hn]
   clear hn;cases hr:(aK x 2 || aK x 4 || aK x 8)
   ·simp only [Bool.or_eq_false_iff] at hr;have HE2:Hid (aL x level=if level=0∨aK x 16=true∨aK x 64=true∨aK x 128=true then 0 else 1):=by
     show _=_;rw [HE.out,if_pos ⟨hr.1.1,hr.1.2,hr.2⟩]
    clear HE;have HR':Hid (cX x 14=false):=by show _=_;rw [HR.out,hr.1.1,hr.1.2,hr.2];rfl
    clear HR hr;by_cases hz:level=0
    ·subst hz;go_enter Try.func116,Try.ntmps116;go_wp2_with (first
      | (go_at_call 91;refine (aJ 0 _).mono ?_;rintro e w' ⟨rfl,rfl⟩;rw [HK.out])
      | (go_at_call 117;refine (ck x _ h0 h1).mono ?_;rintro e w' ⟨rfl,rfl⟩;rw [hs])
      | (go_at_call 93;refine (bu x _ _).mono ?_;rintro e w' ⟨rfl,rfl⟩;rw [HR'.out]))
     go_ret;exact ⟨aE (by rw [HE2.out];simp),rfl⟩
    ·have hz':(level == 0)=false:=by simpa using hz
     cases hu:(aK x 16 || aK x 64 || aK x 128)
     ·have HE3:Hid (aL x level=1):=by
       show _=_;simp only [Bool.or_eq_false_iff] at hu;rw [HE2.out,hu.1.1,hu.1.2,hu.2];simp [hz]
      go_enter Try.func116,Try.ntmps116;go_wp2_with (first
       | (go_at_call 91;refine (aJ level _).mono ?_;rintro e w' ⟨rfl,rfl⟩;rw [HK.out])
       | (go_at_call 117;refine (ck x _ h0 h1).mono ?_;rintro e w' ⟨rfl,rfl⟩;rw [hs])
       | (go_at_call 93;refine (bu x _ _).mono ?_;rintro e w' ⟨rfl,rfl⟩;first | rw [HR'.out] | rw [HU.out,hu]))
      go_ret;exact ⟨aE HE3.out.symm,rfl⟩
     ·have HE3:Hid (aL x level=0):=by
       show _=_;simp only [Bool.or_eq_true] at hu;rw [HE2.out,if_pos];rcases hu with (hu | hu) | hu <;> simp [hu]
      go_enter Try.func116,Try.ntmps116;go_wp2_with (first
       | (go_at_call 91;refine (aJ level _).mono ?_;rintro e w' ⟨rfl,rfl⟩;rw [HK.out])
       | (go_at_call 117;refine (ck x _ h0 h1).mono ?_;rintro e w' ⟨rfl,rfl⟩;rw [hs])
       | (go_at_call 93;refine (bu x _ _).mono ?_;rintro e w' ⟨rfl,rfl⟩;first | rw [HR'.out] | rw [HU.out,hu]))
      go_ret;exact ⟨aE HE3.out.symm,rfl⟩
   ·have HR':Hid (cX x 14=true):=by show _=_;rw [HR.out,hr]
    have HE2:Hid (aL x level=if 0<ch x%bJ level then 0 else 2):=by
     show _=_;rw [HE.out,if_neg];rintro ⟨q1,q2,q3⟩;rw [q1,q2,q3] at hr;cases hr
    clear HE HR hr;have hnn:0<=ch x%bJ level:=by
     apply Int.emod_nonneg;rcases hl with rfl | rfl | rfl <;> decide
    cases ha:(ch x%bJ level == 0)
    ·have HE3:Hid (aL x level=0):=by
      show _=_;have:ch x%bJ level≠0:=by simpa using ha
      rw [HE2.out,if_pos (by omega)]
     clear hnn;go_enter Try.func116,Try.ntmps116;go_wp2_with (first
      | (go_at_call 91;refine (aJ level _).mono ?_;rintro e w' ⟨rfl,rfl⟩;rw [HK.out])
      | (go_at_call 117;refine (ck x _ h0 h1).mono ?_;rintro e w' ⟨rfl,rfl⟩;rw [hs])
      | (go_at_call 93;refine (bu x _ _).mono ?_;rintro e w' ⟨rfl,rfl⟩;rw [HR'.out])
      | (go_at_call 118;refine (du x level _ h0 h1 hl).mono ?_;rintro e w' ⟨rfl,rfl⟩;rw [ha]))
     go_ret;exact ⟨aE HE3.out.symm,rfl⟩
    ·have HE3:Hid (aL x level=2):=by
      show _=_;have:ch x%bJ level=0:=by simpa using ha
      rw [HE2.out,if_neg (by omega)]
     clear hnn;go_enter Try.func116,Try.ntmps116;go_wp2_with (first
      | (go_at_call 91;refine (aJ level _).mono ?_;rintro e w' ⟨rfl,rfl⟩;rw [HK.out])
      | (go_at_call 117;refine (ck x _ h0 h1).mono ?_;rintro e w' ⟨rfl,rfl⟩;rw [hs])
      | (go_at_call 93;refine (bu x _ _).mono ?_;rintro e w' ⟨rfl,rfl⟩;rw [HR'.out])
      | (go_at_call 118;refine (du x level _ h0 h1 hl).mono ?_;rintro e w' ⟨rfl,rfl⟩;rw [ha]))
     go_ret;exact ⟨aE HE3.out.symm,rfl⟩
 ·have HK:Hid (decide (0<=level∧level<=2)=false):=by show _=_;simpa using hlev
  have HE:Hid (aL x level=0):=by
   show _=_;rw [aL,if_pos (by omega)]
  clear hlev;go_enter Try.func116,Try.ntmps116;go_wp2_with (go_at_call 91;refine (aJ level _).mono ?_;rintro e w' ⟨rfl,rfl⟩;rw [HK.out]);go_ret;exact ⟨aE HE.out.symm,rfl⟩
theorem bU (level:Int) (w:World) (hl:level=0∨level=1∨level=2):
 Calls Try.prog 92 #[.int .i64 level] w fun e w'=>e=.returned (.int .u64 (cI level-1))∧w'=w:=by
 rcases hl with rfl | rfl | rfl;all_goals
  go_enter Try.func92,Try.ntmps92;go_wp2_with (go_at_call 98;refine (bE 15 32767 _ (by omega)).mono ?_;rintro e w' ⟨rfl,rfl⟩);go_ret;exact ⟨cH (by decide),rfl⟩
theorem eN (va level:Int) (w:World) (hv0:0<=va) (hv1:va<=18446744073709551615) (hl:level=0∨level=1∨level=2):
 Calls Try.prog 94 #[.int .u64 va,.int .i64 level] w fun e w'=>e=.returned (.int .u64 (bC va level))∧∃n,w'=w.drewN n:=by
 rcases hl with rfl | rfl | rfl
 ·have H:Hid (bits .and .u64 (va/64) 511=bC va 0):=bX 9 (va/64) 511 rfl (by omega) (by omega) (by omega);go_enter Try.func94,Try.ntmps94;go_wp2_with fail;go_quiet ((go_at_call 92;exact Calls.quiet_of_same (bU 0 _ (by omega))));go_wp2_with fail;go_ret;exact ⟨cH H.out,nq,rfl⟩
 ·have H:Hid (bits .and .u64 (va/512) 63=bC va 1):=bX 6 (va/512) 63 rfl (by omega) (by omega) (by omega);go_enter Try.func94,Try.ntmps94;go_wp2_with fail;go_quiet ((go_at_call 92;exact Calls.quiet_of_same (bU 1 _ (by omega))));go_wp2_with fail;go_ret;exact ⟨cH H.out,nq,rfl⟩
 ·have H:Hid (bits .and .u64 (va/4096) 7=bC va 2):=bX 3 (va/4096) 7 rfl (by omega) (by omega) (by omega);go_enter Try.func94,Try.ntmps94;go_wp2_with fail;go_quiet ((go_at_call 92;exact Calls.quiet_of_same (bU 2 _ (by omega))));go_wp2_with fail;go_ret;exact ⟨cH H.out,nq,rfl⟩
theorem eO (x level:Int) (w:World) (h0:0<=x) (h1:x<=18446744073709551615):
 Calls Try.prog 121 #[.int .u64 x,.int .i64 level] w fun e w'=>e=.returned (.bool (aL x level == 2))∧w'=w:=by
 go_enter Try.func121,Try.ntmps121;go_wp2_with (go_at_call 116;refine (fc x level _ h0 h1).mono ?_;rintro e w' ⟨rfl,rfl⟩);go_ret;exact ⟨aj (by simp),rfl⟩
theorem eP (x level:Int) (w:World) (h0:0<=x) (h1:x<=18446744073709551615):
 Calls Try.prog 114 #[.int .u64 x,.int .i64 level] w fun e w'=>e=.returned (.bool (aL x level == 1))∧w'=w:=by
 go_enter Try.func114,Try.ntmps114;go_wp2_with (go_at_call 116;refine (fc x level _ h0 h1).mono ?_;rintro e w' ⟨rfl,rfl⟩);go_ret;exact ⟨aj (by simp),rfl⟩
theorem dU (k:Int) (w:World):
 Calls Try.prog 40 #[.int .i64 k] w fun e w'=>e=.returned (.bool (decide (0<=k∧k<=255)))∧w'=w:=by
 by_cases h:0<=k
 ·go_enter Try.func40,Try.ntmps40;go_wp2_with fail;go_ret;exact ⟨aj (by simp [h]),rfl⟩
 ·go_enter Try.func40,Try.ntmps40;go_wp2_with fail;go_ret;exact ⟨aj (by simp;omega),rfl⟩
def bc (e:EntM):List Value:=[.int .i64 e.level,.int .u64 e.tag,.int .u64 e.asid,.bool e.glob,.bool e.valid,.int .u64 e.pte]
def ax (e:EntM):Value:=.agg #[.int .i64 e.level,.int .u64 e.tag,.int .u64 e.asid,.bool e.glob,.bool e.valid,.int .u64 e.pte]
def af:List EntM->List Value
 | []=>[]
 | e::r=>bc e++af r
theorem aN:∀es:List EntM,(af es).length=es.length*6
 | []=>rfl
 | e::r=>by simp [af,bc,aN r];omega
theorem cF:∀(es:List EntM) (i j:Nat) (hi:i<es.length),j<6->(af es)[i*6+j]?=(bc es[i])[j]?
 | e::r,0,j,hi,hj=>by
  simp only [af,List.getElem_cons_zero,Nat.zero_mul,Nat.zero_add];rw [List.getElem?_append_left (by simp [bc];exact hj)]
 | e::r,i+1,j,hi,hj=>by
  simp only [af,List.getElem_cons_succ];rw [List.getElem?_append_right (by simp [bc];omega)];rw [show (i+1)*6+j-(bc e).length=i*6+j by simp [bc];omega];exact cF r i j (by simpa using hi) hj
theorem be:∀(l:List EntM) (k:Nat) (e:EntM),k<l.length->af (l.set k e)=((((((af l).set (k*6) (.int .i64 e.level)).set (k*6+1) (.int .u64 e.tag)).set (k*6+2) (.int .u64 e.asid)).set (k*6+3) (.bool e.glob)).set (k*6+4) (.bool e.valid)).set (k*6+5) (.int .u64 e.pte)
 | x::r,0,e,h=>by simp [af,bc]
 | x::r,k+1,e,h=>by
  have ih:=be r k e (by simpa using h);rw [List.set_cons_succ];simp only [af,ih];rw [show (k+1)*6=(bc x).length+k*6 by simp [bc];omega];simp only [Nat.add_assoc];rw [List.set_append_right _ _ (by simp [bc]),List.set_append_right _ _ (by omega),List.set_append_right _ _ (by omega),List.set_append_right _ _ (by omega),List.set_append_right _ _ (by omega),List.set_append_right _ _ (by omega)];simp
theorem bS {e:TypeId} {w:World} {base g n cap:Nat} {es:List EntM} (h:w.ownsRow base e 6 (.slice (some ⟨g,0,none⟩) n cap) n (af es)) (hn:es.length=n) (k:Nat) (x:EntM) (hx:es[k]?=some x) (j:Nat) (v:Value) (hj:j<6) (hv:(bc x)[j]?=some v):
 w.cell? ⟨g,k*6+j,none⟩=some v:=by
 have hk:k<es.length:=(List.getElem?_eq_some_iff.1 hx).1;refine ae h _ _ ?_;rw [cF es k j hk hj];obtain ⟨_,rfl⟩:=List.getElem?_eq_some_iff.1 hx;exact hv
def au (k n:Nat) (es:List EntM):List EntM:=es.take k++List.replicate (n-k) aC
theorem bg (k:Nat) (es:List EntM) (hk:k<=es.length):(au k es.length es).length=es.length:=by
 simp [au];omega
theorem bH (k:Nat) (es:List EntM) (x:EntM) (hx:es[k]?=some x):au (k+1) es.length es=(au k es.length es).set k x:=by
 obtain ⟨hk,rfl⟩:=List.getElem?_eq_some_iff.1 hx;unfold au;apply List.ext_getElem?;intro j;rw [List.getElem?_set];by_cases hj:k=j
 ·subst hj;rw [if_pos rfl,if_pos (by simp;omega),List.getElem?_append_left (by simp;omega)];simp [hk]
 ·rw [if_neg hj];by_cases hlt:j<k
  ·rw [List.getElem?_append_left (by simp;omega),List.getElem?_append_left (by simp;omega)];simp [hlt,show j<k+1 by omega]
  ·rw [List.getElem?_append_right (by simp;omega),List.getElem?_append_right (by simp;omega)];simp only [List.length_take,List.getElem?_replicate];rw [show min (k+1) es.length=k+1 by omega,show min k es.length=k by omega];by_cases hh:j<es.length
   ·rw [if_pos (by omega),if_pos (by omega)]
   ·rw [if_neg (by omega),if_neg (by omega)]
theorem dc (k:Nat) (es:List EntM) (hx:es[k]?=some aC):au (k+1) es.length es=au k es.length es:=by
 rw [bH k es aC hx];have hk:k<es.length:=(List.getElem?_eq_some_iff.1 hx).1;apply List.ext_getElem?;intro j;rw [List.getElem?_set];by_cases hj:k=j
 ·subst hj;rw [if_pos rfl,if_pos (by rw [bg _ _ (by omega)];exact hk)];unfold au;rw [List.getElem?_append_right (by simp;omega)];simp only [List.length_take,List.getElem?_replicate];rw [if_pos (by omega)]
 ·rw [if_neg hj]
theorem cl (es:List EntM):au es.length es.length es=es:=by
 simp [au]
theorem bO (n:Nat) (es:List EntM):au 0 n es=List.replicate n aC:=by simp [au]
theorem cd {B:Nat} {a w:World} {g:Nat} (h:Below B a w) (hg:B<=g) (x y z u v t:Value):Below B a ((((((w.setCell ⟨g,0,none⟩ x).setCell ⟨g,1,none⟩ y).setCell ⟨g,2,none⟩ z).setCell ⟨g,3,none⟩ u).setCell ⟨g,4,none⟩ v).setCell ⟨g,5,none⟩ t):=
 (((aS h hg x y z).setCell (p:=⟨g,3,none⟩) hg u).setCell (p:=⟨g,4,none⟩) hg v).setCell (p:=⟨g,5,none⟩) hg t
theorem aV {v:World} {p:Nat} {T:TypeId} {a b c d e f:Value} (h:v.heap[p]?=some (.cells #[a,b,c,d,e,f] T (0,0))):
 (v.cell? ⟨p,0,none⟩=some a∧v.cell? ⟨p,1,none⟩=some b∧v.cell? ⟨p,2,none⟩=some c∧v.cell? ⟨p,3,none⟩=some d∧v.cell? ⟨p,4,none⟩=some e∧v.cell? ⟨p,5,none⟩=some f)∧
  (v.frozen? ⟨p,0,none⟩=false∧v.frozen? ⟨p,1,none⟩=false∧v.frozen? ⟨p,2,none⟩=false∧v.frozen? ⟨p,3,none⟩=false∧v.frozen? ⟨p,4,none⟩=false∧v.frozen? ⟨p,5,none⟩=false):=by
 simp [World.cell?,World.frozen?,h]
theorem bW (x:Int) (w:World):(method 269 81 (.int .u64 x) "loop.example/s0051/impl.goodAt").run Try.prog w=.ok (121,.int .u64 x) w:=by kernel_rfl
theorem fB (lv tg asd pt tm:Int) (gl:Bool) (w:World):
 Calls Try.prog 69 #[.agg #[.bool false,.int .i64 lv,.int .u64 tg,.int .u64 asd,.bool gl,.int .u64 pt]] w fun e w'=>e=.returned (.tuple #[ax aC,.bool false])∧Below w.heap.size w w':=by
 have n1:=((Below.refl w.heap.size w).alloc (Nat.le_refl _) (Obj.cells #[.bool false,.int .i64 lv,.int .u64 tg,.int .u64 asd,.bool gl,.int .u64 pt] 42)).alloc (by simp) (Obj.cells #[.int .i64 0,.int .u64 0,.int .u64 0,.bool false,.bool false,.int .u64 0] 123);go_enter Try.func69,Try.ntmps69;go_wp2_with fail;go_quiet (fail);go_wp2_with fail;exact bodyPost_ret (v:=.tuple #[ax aC,.bool false]) (by simp [results,Try.results69,go_sem,ax,aC]) rfl ⟨rfl,cd (below_drewN n1 nq) (by omega) _ _ _ _ _ _⟩
theorem fC (lv tg asd pt tm:Int) (gl:Bool) (w:World) (HKL:Hid (∀w,Calls Try.prog 91 #[.int .i64 lv] w fun e w'=>e=.returned (.bool false)∧w'=w)):
 Calls Try.prog 69 #[.agg #[.bool true,.int .i64 lv,.int .u64 tg,.int .u64 asd,.bool gl,.int .u64 pt]] w fun e w'=>e=.returned (.tuple #[ax aC,.bool false])∧Below w.heap.size w w':=by
 have n1:=((Below.refl w.heap.size w).alloc (Nat.le_refl _) (Obj.cells #[.bool true,.int .i64 lv,.int .u64 tg,.int .u64 asd,.bool gl,.int .u64 pt] 42)).alloc (by simp) (Obj.cells #[.int .i64 0,.int .u64 0,.int .u64 0,.bool false,.bool false,.int .u64 0] 123);go_enter Try.func69,Try.ntmps69;go_wp2_with fail;go_quiet ((go_at_call 91;exact Calls.quiet_of_same (HKL.out _)));go_wp2_with fail;exact bodyPost_ret (v:=.tuple #[ax aC,.bool false]) (by simp [results,Try.results69,go_sem,ax,aC]) rfl ⟨rfl,cd (below_drewN n1 nq) (by omega) _ _ _ _ _ _⟩
theorem fD (lv tg asd pt tm:Int) (gl:Bool) (w:World) (HKL:Hid (∀w,Calls Try.prog 91 #[.int .i64 lv] w fun e w'=>e=.returned (.bool true)∧w'=w)) (HTM:Hid (∀w,Calls Try.prog 92 #[.int .i64 lv] w fun e w'=>e=.returned (.int .u64 tm)∧w'=w)) (h:¬(tg<=tm)):
 Calls Try.prog 69 #[.agg #[.bool true,.int .i64 lv,.int .u64 tg,.int .u64 asd,.bool gl,.int .u64 pt]] w fun e w'=>e=.returned (.tuple #[ax aC,.bool false])∧Below w.heap.size w w':=by
 have n1:=((Below.refl w.heap.size w).alloc (Nat.le_refl _) (Obj.cells #[.bool true,.int .i64 lv,.int .u64 tg,.int .u64 asd,.bool gl,.int .u64 pt] 42)).alloc (by simp) (Obj.cells #[.int .i64 0,.int .u64 0,.int .u64 0,.bool false,.bool false,.int .u64 0] 123);go_enter Try.func69,Try.ntmps69;go_wp2_with fail;go_quiet (first
  | (go_at_call 91;exact Calls.quiet_of_same (HKL.out _))
  | (go_at_call 92;exact Calls.quiet_of_same (HTM.out _)))
 go_wp2_with fail;exact bodyPost_ret (v:=.tuple #[ax aC,.bool false]) (by simp [results,Try.results69,go_sem,ax,aC]) rfl ⟨rfl,cd (below_drewN n1 nq) (by omega) _ _ _ _ _ _⟩
theorem fE (lv tg asd pt tm:Int) (gl:Bool) (w:World) (HKL:Hid (∀w,Calls Try.prog 91 #[.int .i64 lv] w fun e w'=>e=.returned (.bool true)∧w'=w)) (HTM:Hid (∀w,Calls Try.prog 92 #[.int .i64 lv] w fun e w'=>e=.returned (.int .u64 tm)∧w'=w)) (h:tg<=tm) (h2:¬(asd<=65535)):
 Calls Try.prog 69 #[.agg #[.bool true,.int .i64 lv,.int .u64 tg,.int .u64 asd,.bool gl,.int .u64 pt]] w fun e w'=>e=.returned (.tuple #[ax aC,.bool false])∧Below w.heap.size w w':=by
 have n1:=((Below.refl w.heap.size w).alloc (Nat.le_refl _) (Obj.cells #[.bool true,.int .i64 lv,.int .u64 tg,.int .u64 asd,.bool gl,.int .u64 pt] 42)).alloc (by simp) (Obj.cells #[.int .i64 0,.int .u64 0,.int .u64 0,.bool false,.bool false,.int .u64 0] 123);go_enter Try.func69,Try.ntmps69;go_wp2_with fail;go_quiet (first
  | (go_at_call 91;exact Calls.quiet_of_same (HKL.out _))
  | (go_at_call 92;exact Calls.quiet_of_same (HTM.out _)))
 go_wp2_with fail;exact bodyPost_ret (v:=.tuple #[ax aC,.bool false]) (by simp [results,Try.results69,go_sem,ax,aC]) rfl ⟨rfl,cd (below_drewN n1 nq) (by omega) _ _ _ _ _ _⟩
theorem fF (lv tg asd pt tm:Int) (gl g5:Bool) (w:World) (HKL:Hid (∀w,Calls Try.prog 91 #[.int .i64 lv] w fun e w'=>e=.returned (.bool true)∧w'=w)) (HTM:Hid (∀w,Calls Try.prog 92 #[.int .i64 lv] w fun e w'=>e=.returned (.int .u64 tm)∧w'=w)) (h:tg<=tm) (h2:asd<=65535) (HB:Hid (∀w,Calls Try.prog 93 #[.int .u64 pt,.int .u64 32] w fun e w'=>e=.returned (.bool g5)∧w'=w)) (hne:(gl == g5)=false):
 Calls Try.prog 69 #[.agg #[.bool true,.int .i64 lv,.int .u64 tg,.int .u64 asd,.bool gl,.int .u64 pt]] w fun e w'=>e=.returned (.tuple #[ax aC,.bool false])∧Below w.heap.size w w':=by
 have hne2:(gl != g5)=true:=by simp [bne,hne]
 have H1:Hid (∀k,(((w.alloc (Obj.cells #[.bool true,.int .i64 lv,.int .u64 tg,.int .u64 asd,.bool gl,.int .u64 pt] 42)).alloc (Obj.cells #[.int .i64 0,.int .u64 0,.int .u64 0,.bool false,.bool false,.int .u64 0] 123)).drewN k).heap[w.heap.size]?=some (.cells #[.bool true,.int .i64 lv,.int .u64 tg,.int .u64 asd,.bool gl,.int .u64 pt] 42 (0,0))):=by
  intro k;show ((w.alloc (Obj.cells #[.bool true,.int .i64 lv,.int .u64 tg,.int .u64 asd,.bool gl,.int .u64 pt] 42)).alloc (Obj.cells #[.int .i64 0,.int .u64 0,.int .u64 0,.bool false,.bool false,.int .u64 0] 123)).heap[w.heap.size]?=_;rw [heap_alloc_old _ _ (by simp)];exact heap_alloc_new w _
 have H2:Hid (∀k,(((w.alloc (Obj.cells #[.bool true,.int .i64 lv,.int .u64 tg,.int .u64 asd,.bool gl,.int .u64 pt] 42)).alloc (Obj.cells #[.int .i64 0,.int .u64 0,.int .u64 0,.bool false,.bool false,.int .u64 0] 123)).drewN k).heap[w.heap.size+1]?=some (.cells #[.int .i64 0,.int .u64 0,.int .u64 0,.bool false,.bool false,.int .u64 0] 123 (0,0))):=by
  intro k;have:=heap_alloc_new (w.alloc (Obj.cells #[.bool true,.int .i64 lv,.int .u64 tg,.int .u64 asd,.bool gl,.int .u64 pt] 42)) (Obj.cells #[.int .i64 0,.int .u64 0,.int .u64 0,.bool false,.bool false,.int .u64 0] 123);simp only [World.size_alloc] at this;exact this
 have n1:=((Below.refl w.heap.size w).alloc (Nat.le_refl _) (Obj.cells #[.bool true,.int .i64 lv,.int .u64 tg,.int .u64 asd,.bool gl,.int .u64 pt] 42)).alloc (by simp) (Obj.cells #[.int .i64 0,.int .u64 0,.int .u64 0,.bool false,.bool false,.int .u64 0] 123);have HW:Hid (∀k,Below w.heap.size w (((w.alloc (Obj.cells #[.bool true,.int .i64 lv,.int .u64 tg,.int .u64 asd,.bool gl,.int .u64 pt] 42)).alloc (Obj.cells #[.int .i64 0,.int .u64 0,.int .u64 0,.bool false,.bool false,.int .u64 0] 123)).drewN k)):=fun k=>below_drewN n1 k;have HS:Hid (∀k,(((w.alloc (Obj.cells #[.bool true,.int .i64 lv,.int .u64 tg,.int .u64 asd,.bool gl,.int .u64 pt] 42)).alloc (Obj.cells #[.int .i64 0,.int .u64 0,.int .u64 0,.bool false,.bool false,.int .u64 0] 123)).drewN k).heap.size=w.heap.size+2):=fun k=>by show ((w.alloc (Obj.cells #[.bool true,.int .i64 lv,.int .u64 tg,.int .u64 asd,.bool gl,.int .u64 pt] 42)).alloc (Obj.cells #[.int .i64 0,.int .u64 0,.int .u64 0,.bool false,.bool false,.int .u64 0] 123)).heap.size=_;simp
 have hm:=bW pt;clear n1;go_enter Try.func69,Try.ntmps69;go_wp2_with fail;go_quiet (first
  | (go_at_call 91;exact Calls.quiet_of_same (HKL.out _))
  | (go_at_call 92;exact Calls.quiet_of_same (HTM.out _)))
 have K1:=H1.out nq;have K2:=H2.out nq;have B1:=HW.out nq;have S1:=HS.out nq;generalize ((w.alloc (Obj.cells #[.bool true,.int .i64 lv,.int .u64 tg,.int .u64 asd,.bool gl,.int .u64 pt] 42)).alloc (Obj.cells #[.int .i64 0,.int .u64 0,.int .u64 0,.bool false,.bool false,.int .u64 0] 123)).drewN nq=v2 at K1 K2 B1 S1 |-;have P1:Hid _:=K1;have P2:Hid _:=K2;clear H1 H2 HW HS K1 K2;obtain ⟨⟨x0,x1,x2,x3,x4,x5⟩,_⟩:=aV P1.out;obtain ⟨⟨y0,y1,y2,y3,y4,y5⟩,z0,z1,z2,z3,z4,z5⟩:=aV P2.out;have ne1:v2.heap.size≠w.heap.size:=by omega
 have ne2:v2.heap.size≠w.heap.size+1:=by omega
 have ne3:w.heap.size<v2.heap.size:=by omega
 have ne4:w.heap.size+1<v2.heap.size:=by omega
 clear HKL HTM;go_wp2_with fail;go_quiet ((go_at_call 93;exact Calls.quiet_of_same (HB.out _)));go_wp2_with fail;exact bodyPost_ret (v:=.tuple #[ax aC,.bool false]) (by simp [results,Try.results69,go_sem,ax,aC,y0,y1,y2,y3,y4,y5]) rfl ⟨rfl,cd (below_drewN B1 _) (by omega) _ _ _ _ _ _⟩
theorem fG (lv tg asd pt tm:Int) (gl:Bool) (w:World) (HKL:Hid (∀w,Calls Try.prog 91 #[.int .i64 lv] w fun e w'=>e=.returned (.bool true)∧w'=w)) (HTM:Hid (∀w,Calls Try.prog 92 #[.int .i64 lv] w fun e w'=>e=.returned (.int .u64 tm)∧w'=w)) (h:tg<=tm) (h2:asd<=65535) (HB:Hid (∀w,Calls Try.prog 93 #[.int .u64 pt,.int .u64 32] w fun e w'=>e=.returned (.bool gl)∧w'=w)) (HGD:Hid (∀w,Calls Try.prog 121 #[.int .u64 pt,.int .i64 lv] w fun e w'=>e=.returned (.bool false)∧w'=w)):
 Calls Try.prog 69 #[.agg #[.bool true,.int .i64 lv,.int .u64 tg,.int .u64 asd,.bool gl,.int .u64 pt]] w fun e w'=>e=.returned (.tuple #[ax aC,.bool false])∧Below w.heap.size w w':=by
 have hne2:(gl != gl)=false:=by simp
 have H1:Hid (∀k,(((w.alloc (Obj.cells #[.bool true,.int .i64 lv,.int .u64 tg,.int .u64 asd,.bool gl,.int .u64 pt] 42)).alloc (Obj.cells #[.int .i64 0,.int .u64 0,.int .u64 0,.bool false,.bool false,.int .u64 0] 123)).drewN k).heap[w.heap.size]?=some (.cells #[.bool true,.int .i64 lv,.int .u64 tg,.int .u64 asd,.bool gl,.int .u64 pt] 42 (0,0))):=by
  intro k;show ((w.alloc (Obj.cells #[.bool true,.int .i64 lv,.int .u64 tg,.int .u64 asd,.bool gl,.int .u64 pt] 42)).alloc (Obj.cells #[.int .i64 0,.int .u64 0,.int .u64 0,.bool false,.bool false,.int .u64 0] 123)).heap[w.heap.size]?=_;rw [heap_alloc_old _ _ (by simp)];exact heap_alloc_new w _
 have H2:Hid (∀k,(((w.alloc (Obj.cells #[.bool true,.int .i64 lv,.int .u64 tg,.int .u64 asd,.bool gl,.int .u64 pt] 42)).alloc (Obj.cells #[.int .i64 0,.int .u64 0,.int .u64 0,.bool false,.bool false,.int .u64 0] 123)).drewN k).heap[w.heap.size+1]?=some (.cells #[.int .i64 0,.int .u64 0,.int .u64 0,.bool false,.bool false,.int .u64 0] 123 (0,0))):=by
  intro k;have:=heap_alloc_new (w.alloc (Obj.cells #[.bool true,.int .i64 lv,.int .u64 tg,.int .u64 asd,.bool gl,.int .u64 pt] 42)) (Obj.cells #[.int .i64 0,.int .u64 0,.int .u64 0,.bool false,.bool false,.int .u64 0] 123);simp only [World.size_alloc] at this;exact this
 have n1:=((Below.refl w.heap.size w).alloc (Nat.le_refl _) (Obj.cells #[.bool true,.int .i64 lv,.int .u64 tg,.int .u64 asd,.bool gl,.int .u64 pt] 42)).alloc (by simp) (Obj.cells #[.int .i64 0,.int .u64 0,.int .u64 0,.bool false,.bool false,.int .u64 0] 123);have HW:Hid (∀k,Below w.heap.size w (((w.alloc (Obj.cells #[.bool true,.int .i64 lv,.int .u64 tg,.int .u64 asd,.bool gl,.int .u64 pt] 42)).alloc (Obj.cells #[.int .i64 0,.int .u64 0,.int .u64 0,.bool false,.bool false,.int .u64 0] 123)).drewN k)):=fun k=>below_drewN n1 k;have HS:Hid (∀k,(((w.alloc (Obj.cells #[.bool true,.int .i64 lv,.int .u64 tg,.int .u64 asd,.bool gl,.int .u64 pt] 42)).alloc (Obj.cells #[.int .i64 0,.int .u64 0,.int .u64 0,.bool false,.bool false,.int .u64 0] 123)).drewN k).heap.size=w.heap.size+2):=fun k=>by show ((w.alloc (Obj.cells #[.bool true,.int .i64 lv,.int .u64 tg,.int .u64 asd,.bool gl,.int .u64 pt] 42)).alloc (Obj.cells #[.int .i64 0,.int .u64 0,.int .u64 0,.bool false,.bool false,.int .u64 0] 123)).heap.size=_;simp
 have hm:=bW pt;clear n1;go_enter Try.func69,Try.ntmps69;go_wp2_with fail;go_quiet (first
  | (go_at_call 91;exact Calls.quiet_of_same (HKL.out _))
  | (go_at_call 92;exact Calls.quiet_of_same (HTM.out _)))
 have K1:=H1.out nq;have K2:=H2.out nq;have B1:=HW.out nq;have S1:=HS.out nq;generalize ((w.alloc (Obj.cells #[.bool true,.int .i64 lv,.int .u64 tg,.int .u64 asd,.bool gl,.int .u64 pt] 42)).alloc (Obj.cells #[.int .i64 0,.int .u64 0,.int .u64 0,.bool false,.bool false,.int .u64 0] 123)).drewN nq=v2 at K1 K2 B1 S1 |-;have P1:Hid _:=K1;have P2:Hid _:=K2;clear H1 H2 HW HS K1 K2;obtain ⟨⟨x0,x1,x2,x3,x4,x5⟩,_⟩:=aV P1.out;obtain ⟨⟨y0,y1,y2,y3,y4,y5⟩,z0,z1,z2,z3,z4,z5⟩:=aV P2.out;have ne1:v2.heap.size≠w.heap.size:=by omega
 have ne2:v2.heap.size≠w.heap.size+1:=by omega
 have ne3:w.heap.size<v2.heap.size:=by omega
 have ne4:w.heap.size+1<v2.heap.size:=by omega
 clear HKL HTM;go_wp2_with fail;go_quiet (first
  | (go_at_call 93;exact Calls.quiet_of_same (HB.out _))
  | (go_at_call 121;exact Calls.quiet_of_same (HGD.out _)))
 go_wp2_with fail;exact bodyPost_ret (v:=.tuple #[ax aC,.bool false]) (by simp [results,Try.results69,go_sem,ax,aC,y0,y1,y2,y3,y4,y5]) rfl ⟨rfl,cd (below_drewN B1 _) (by omega) _ _ _ _ _ _⟩
theorem fu (lv tg asd pt tm:Int) (gl:Bool) (w:World) (HKL:Hid (∀w,Calls Try.prog 91 #[.int .i64 lv] w fun e w'=>e=.returned (.bool true)∧w'=w)) (HTM:Hid (∀w,Calls Try.prog 92 #[.int .i64 lv] w fun e w'=>e=.returned (.int .u64 tm)∧w'=w)) (h:tg<=tm) (h2:asd<=65535) (HB:Hid (∀w,Calls Try.prog 93 #[.int .u64 pt,.int .u64 32] w fun e w'=>e=.returned (.bool gl)∧w'=w)) (HGD:Hid (∀w,Calls Try.prog 121 #[.int .u64 pt,.int .i64 lv] w fun e w'=>e=.returned (.bool true)∧w'=w)):
 Calls Try.prog 69 #[.agg #[.bool true,.int .i64 lv,.int .u64 tg,.int .u64 asd,.bool gl,.int .u64 pt]] w fun e w'=>e=.returned (.tuple #[ax ⟨true,lv,tg,asd,gl,pt⟩,.bool true])∧Below w.heap.size w w':=by
 have hne2:(gl != gl)=false:=by simp
 have H1:Hid (∀k,(((w.alloc (Obj.cells #[.bool true,.int .i64 lv,.int .u64 tg,.int .u64 asd,.bool gl,.int .u64 pt] 42)).alloc (Obj.cells #[.int .i64 0,.int .u64 0,.int .u64 0,.bool false,.bool false,.int .u64 0] 123)).drewN k).heap[w.heap.size]?=some (.cells #[.bool true,.int .i64 lv,.int .u64 tg,.int .u64 asd,.bool gl,.int .u64 pt] 42 (0,0))):=by
  intro k;show ((w.alloc (Obj.cells #[.bool true,.int .i64 lv,.int .u64 tg,.int .u64 asd,.bool gl,.int .u64 pt] 42)).alloc (Obj.cells #[.int .i64 0,.int .u64 0,.int .u64 0,.bool false,.bool false,.int .u64 0] 123)).heap[w.heap.size]?=_;rw [heap_alloc_old _ _ (by simp)];exact heap_alloc_new w _
 have H2:Hid (∀k,(((w.alloc (Obj.cells #[.bool true,.int .i64 lv,.int .u64 tg,.int .u64 asd,.bool gl,.int .u64 pt] 42)).alloc (Obj.cells #[.int .i64 0,.int .u64 0,.int .u64 0,.bool false,.bool false,.int .u64 0] 123)).drewN k).heap[w.heap.size+1]?=some (.cells #[.int .i64 0,.int .u64 0,.int .u64 0,.bool false,.bool false,.int .u64 0] 123 (0,0))):=by
  intro k;have:=heap_alloc_new (w.alloc (Obj.cells #[.bool true,.int .i64 lv,.int .u64 tg,.int .u64 asd,.bool gl,.int .u64 pt] 42)) (Obj.cells #[.int .i64 0,.int .u64 0,.int .u64 0,.bool false,.bool false,.int .u64 0] 123);simp only [World.size_alloc] at this;exact this
 have n1:=((Below.refl w.heap.size w).alloc (Nat.le_refl _) (Obj.cells #[.bool true,.int .i64 lv,.int .u64 tg,.int .u64 asd,.bool gl,.int .u64 pt] 42)).alloc (by simp) (Obj.cells #[.int .i64 0,.int .u64 0,.int .u64 0,.bool false,.bool false,.int .u64 0] 123);have HW:Hid (∀k,Below w.heap.size w (((w.alloc (Obj.cells #[.bool true,.int .i64 lv,.int .u64 tg,.int .u64 asd,.bool gl,.int .u64 pt] 42)).alloc (Obj.cells #[.int .i64 0,.int .u64 0,.int .u64 0,.bool false,.bool false,.int .u64 0] 123)).drewN k)):=fun k=>below_drewN n1 k;have HS:Hid (∀k,(((w.alloc (Obj.cells #[.bool true,.int .i64 lv,.int .u64 tg,.int .u64 asd,.bool gl,.int .u64 pt] 42)).alloc (Obj.cells #[.int .i64 0,.int .u64 0,.int .u64 0,.bool false,.bool false,.int .u64 0] 123)).drewN k).heap.size=w.heap.size+2):=fun k=>by show ((w.alloc (Obj.cells #[.bool true,.int .i64 lv,.int .u64 tg,.int .u64 asd,.bool gl,.int .u64 pt] 42)).alloc (Obj.cells #[.int .i64 0,.int .u64 0,.int .u64 0,.bool false,.bool false,.int .u64 0] 123)).heap.size=_;simp
 have hm:=bW pt;clear n1;go_enter Try.func69,Try.ntmps69;go_wp2_with fail;go_quiet (first
  | (go_at_call 91;exact Calls.quiet_of_same (HKL.out _))
  | (go_at_call 92;exact Calls.quiet_of_same (HTM.out _)))
 have K1:=H1.out nq;have K2:=H2.out nq;have B1:=HW.out nq;have S1:=HS.out nq;generalize ((w.alloc (Obj.cells #[.bool true,.int .i64 lv,.int .u64 tg,.int .u64 asd,.bool gl,.int .u64 pt] 42)).alloc (Obj.cells #[.int .i64 0,.int .u64 0,.int .u64 0,.bool false,.bool false,.int .u64 0] 123)).drewN nq=v2 at K1 K2 B1 S1 |-;have P1:Hid _:=K1;have P2:Hid _:=K2;clear H1 H2 HW HS K1 K2;obtain ⟨⟨x0,x1,x2,x3,x4,x5⟩,_⟩:=aV P1.out;obtain ⟨⟨y0,y1,y2,y3,y4,y5⟩,z0,z1,z2,z3,z4,z5⟩:=aV P2.out;have ne1:v2.heap.size≠w.heap.size:=by omega
 have ne2:v2.heap.size≠w.heap.size+1:=by omega
 have ne3:w.heap.size<v2.heap.size:=by omega
 have ne4:w.heap.size+1<v2.heap.size:=by omega
 clear HKL HTM;go_wp2_with fail;go_quiet (first
  | (go_at_call 93;exact Calls.quiet_of_same (HB.out _))
  | (go_at_call 121;exact Calls.quiet_of_same (HGD.out _)))
 go_wp2_with fail;exact bodyPost_ret (v:=.tuple #[ax ⟨true,lv,tg,asd,gl,pt⟩,.bool true]) (by simp [results,Try.results69,go_sem,ax,y0,y1,y2,y3,y4,y5,ne4]) rfl ⟨rfl,(cd (below_drewN B1 nq) (by omega) _ _ _ _ _ _).alloc (by simp;omega) _⟩
theorem de (x:EntM) (w:World) (hx:aO x):
 Calls Try.prog 69 #[bQ x] w fun e w'=>e=.returned (.tuple #[ax (if ak x false=true then x else aC),.bool (ak x false)])∧Below w.heap.size w w':=by
 obtain ⟨v,lv,tg,asd,gl,pt⟩:=x;obtain ⟨⟨a1,a2⟩,⟨b1,b2⟩,⟨c1,c2⟩,d1,d2⟩:=hx;simp only at a1 a2 b1 b2 c1 c2 d1 d2;unfold bQ;simp only;cases v
 ·rw [show ak ⟨false,lv,tg,asd,gl,pt⟩ false=false by simp [ak]];exact fB lv tg asd pt 0 gl w
 by_cases h0:¬(0<=lv∧lv<=2)
 ·rw [show ak ⟨true,lv,tg,asd,gl,pt⟩ false=false by simp [ak];omega];exact fC lv tg asd pt 0 gl w (fun w=>by
   have:=aJ lv w;rw [show decide (0<=lv∧lv<=2)=false by simpa using h0] at this;exact this)
 have h0':0<=lv∧lv<=2:=Decidable.not_not.1 h0;have HKL:Hid (∀w,Calls Try.prog 91 #[.int .i64 lv] w fun e w'=>e=.returned (.bool true)∧w'=w):=fun w=>by
  have:=aJ lv w;rw [show decide (0<=lv∧lv<=2)=true by simpa using h0'] at this;exact this
 obtain ⟨tm,htm⟩:∃tm,cI lv-1=tm:=⟨_,rfl⟩;have HTM:Hid (∀w,Calls Try.prog 92 #[.int .i64 lv] w fun e w'=>e=.returned (.int .u64 tm)∧w'=w):=fun w=>by
  have:=bU lv w (by omega);rw [htm] at this;exact this
 by_cases h1:¬(tg<=tm)
 ·rw [show ak ⟨true,lv,tg,asd,gl,pt⟩ false=false by simp [ak];omega];exact fD lv tg asd pt tm gl w HKL HTM h1
 have h1':tg<=tm:=Decidable.not_not.1 h1;by_cases h2:¬(asd<=65535)
 ·rw [show ak ⟨true,lv,tg,asd,gl,pt⟩ false=false by simp [ak];omega];exact fE lv tg asd pt tm gl w HKL HTM h1' h2
 have h2':asd<=65535:=Decidable.not_not.1 h2;have hgood:ak ⟨true,lv,tg,asd,gl,pt⟩ false=((gl == aK pt 32) && (aL pt lv == 2)):=by
  simp only [ak,cu];simp [h0'.1,h0'.2,h2',show tg<cI lv by omega]
 rw [hgood];obtain ⟨g5,hg5⟩:∃g5,aK pt 32=g5:=⟨_,rfl⟩;obtain ⟨gd,hgd⟩:∃gd,(aL pt lv == 2)=gd:=⟨_,rfl⟩;have HB:Hid (∀w,Calls Try.prog 93 #[.int .u64 pt,.int .u64 32] w fun e w'=>e=.returned (.bool g5)∧w'=w):=fun w=>by
  have:=bu pt 32 w;rw [bp 5 pt 32 rfl (by omega) d1 d2,hg5] at this;exact this
 have HGD:Hid (∀w,Calls Try.prog 121 #[.int .u64 pt,.int .i64 lv] w fun e w'=>e=.returned (.bool gd)∧w'=w):=fun w=>by
  have:=eO pt lv w d1 d2;rw [hgd] at this;exact this
 rw [hg5,hgd];cases hq:(gl == g5)
 ·exact fF lv tg asd pt tm gl g5 w HKL HTM h1' h2' HB hq
 ·have hq':gl=g5:=by simpa using hq
  subst hq';cases gd
  ·exact fG lv tg asd pt tm gl w HKL HTM h1' h2' HB HGD
  ·exact fu lv tg asd pt tm gl w HKL HTM h1' h2' HB HGD
theorem cY (b o:Nat) (sets tag:Int) (w:World) (hs:sets=1∨sets=2∨sets=4∨sets=8) (c0:w.cell? ⟨b,o,none⟩=some (.int .i64 sets)) (ht:0<=tag) (ht1:tag<=18446744073709551615):
 Calls Try.prog 70 #[.pointer (some ⟨b,o,none⟩),.int .u64 tag] w fun e w'=>e=.returned (.int .i64 (tag%sets))∧w'=w:=by
 rcases hs with rfl | rfl | rfl | rfl;all_goals
  go_enter Try.func70,Try.ntmps70;go_wp2_with fail;go_ret;exact ⟨aE (by omega),rfl⟩
theorem cD (sets ways:Int) (a:Option Addr) (n cap:Nat) (w:World) (hn:n<=1048576) (hs: -9223372036854775808<=sets∧sets<=9223372036854775807) (hw: -9223372036854775808<=ways∧ways<=9223372036854775807):
 Calls Try.prog 66 #[.agg #[.int .i64 sets,.int .i64 ways,.slice a n cap]] w fun e w'=>e=.returned (.bool (decide ((sets=1∨sets=2∨sets=4∨sets=8)∧1<=ways∧ways<=4∧(n:Int)=sets*ways)))∧Below w.heap.size w w':=by
 have n1:=(Below.refl w.heap.size w).alloc (Nat.le_refl _) (Obj.cells #[.int .i64 sets,.int .i64 ways,.slice a n cap] 29);by_cases h1:sets=1∨sets=2∨sets=4∨sets=8
 ·by_cases h2:¬(1<=ways)
  ·rcases h1 with rfl | rfl | rfl | rfl;all_goals
    go_enter Try.func66,Try.ntmps66;go_wp2_with fail;go_ret;exact ⟨aj (by simp;omega),n1⟩
  ·have h2':=Decidable.not_not.1 h2;clear h2;by_cases h3:¬(ways<=4)
   ·rcases h1 with rfl | rfl | rfl | rfl;all_goals
     go_enter Try.func66,Try.ntmps66;go_wp2_with fail;go_ret;exact ⟨aj (by simp;omega),n1⟩
   ·have h3':=Decidable.not_not.1 h3;clear h3;rcases h1 with rfl | rfl | rfl | rfl;all_goals
     go_enter Try.func66,Try.ntmps66;go_wp2_with fail;go_ret;exact ⟨aj (by simp [h2',h3'];rfl),n1⟩
 ·have h1':=h1;simp only [not_or] at h1';obtain ⟨s1,s2,s4,s8⟩:=h1';go_enter Try.func66,Try.ntmps66;go_wp2_with fail;go_ret;exact ⟨aj (by simp [h1]),n1⟩
theorem ep (z:EntM) (n:Nat):(madeCells (bc z).toArray (n*6)).toList=af (List.replicate n z):=by
 apply List.ext_getElem?;intro j;by_cases hj:j<n*6
 ·have hq:j/6<(List.replicate n z).length:=by simp;omega
  have:=cF (List.replicate n z) (j/6) (j%6) hq (by omega);rw [show j/6*6+j%6=j by omega] at this;rw [this];have h6:j%6<(bc z).length:=by simp [bc];omega
  simp only [madeCells,List.getElem_replicate];rw [List.getElem?_eq_getElem h6];simp [hj,bc];rw [List.getElem?_eq_getElem (by simpa [bc] using h6)];rfl
 ·rw [List.getElem?_eq_none (by simp [madeCells];omega),List.getElem?_eq_none (by rw [aN];simp;omega)]
theorem eq (v:World) (T E:TypeId) (xs cs:Array Value) (ss:List Value) (n:Nat) (hcs:cs.toList=ss) (hn:ss.length=n*6) (hm:n<=maxLen):
 ((v.alloc (.cells cs E)).alloc (.cells xs T)).drew.heap[v.heap.size+1]?=some (.cells xs T (0,0))∧((v.alloc (.cells cs E)).alloc (.cells xs T)).drew.ownsRow v.heap.size E 6 (.slice (some ⟨v.heap.size,0,none⟩) n n) n ss∧
  Below v.heap.size v ((v.alloc (.cells cs E)).alloc (.cells xs T)).drew∧v.heap.size+1<((v.alloc (.cells cs E)).alloc (.cells xs T)).drew.heap.size:=by
 have hs:cs.size=n*6:=by rw [<-hn,<-hcs];simp
 have h1:=World.ownsRow_lit (e:=E) (size:=6) v cs n (Nat.le_refl v.heap.size) hm hs;rw [hcs] at h1;refine ⟨?_,ah h1 (((Below.refl _ _).alloc (Nat.le_refl _) _).drew),(((Below.refl v.heap.size v).alloc (Nat.le_refl _) _).alloc (by simp) _).drew,?_⟩
 ·have:=heap_alloc_new (v.alloc (.cells cs E)) (.cells xs T);simp only [World.size_alloc] at this;exact this
 ·show _<((v.alloc (.cells cs E)).alloc (.cells xs T)).heap.size;simp
theorem er (v:World) (T E:TypeId) (xs cs:Array Value) (ss:List Value) (n:Nat) (hcs:cs.toList=ss) (hn:ss.length=n*6) (hm:n<=maxLen):
 ((v.alloc (.cells xs T)).alloc (.cells cs E)).drew.heap[v.heap.size]?=some (.cells xs T (0,0))∧((v.alloc (.cells xs T)).alloc (.cells cs E)).drew.ownsRow v.heap.size E 6 (.slice (some ⟨v.heap.size+1,0,none⟩) n n) n ss∧
  Below v.heap.size v ((v.alloc (.cells xs T)).alloc (.cells cs E)).drew∧v.heap.size<((v.alloc (.cells xs T)).alloc (.cells cs E)).drew.heap.size:=by
 have hs:cs.size=n*6:=by rw [<-hn,<-hcs];simp
 have h1:=World.ownsRow_lit (e:=E) (size:=6) (v.alloc (.cells xs T)) cs n (base:=v.heap.size) (by simp) hm hs;rw [hcs] at h1;simp only [World.size_alloc] at h1;refine ⟨?_,h1,(((Below.refl v.heap.size v).alloc (Nat.le_refl _) _).alloc (by simp) _).drew,?_⟩
 ·show ((v.alloc (.cells xs T)).alloc (.cells cs E)).heap[v.heap.size]?=_;rw [heap_alloc_old _ _ (by simp)];exact heap_alloc_new v _
 ·show _<((v.alloc (.cells xs T)).alloc (.cells cs E)).heap.size;simp;omega
theorem bq {w:World} {g n:Nat} {es:List EntM} (h:RowC w (some ⟨g,0,none⟩) n 6 (af es)) (hn:es.length=n) (k:Nat) (x:EntM) (hx:es[k]?=some x) (j:Nat) (v:Value) (hj:j<6) (hv:(bc x)[j]?=some v):
 w.cell? ⟨g,k*6+j,none⟩=some v:=by
 have hk:k<es.length:=(List.getElem?_eq_some_iff.1 hx).1;rcases h.2 with h0 | ⟨b',off',e,_,hc⟩
 ·omega
 ·simp at e;obtain ⟨rfl,rfl⟩:=e;have:=hc (k*6+j) v (by
   rw [cF es k j hk hj];obtain ⟨_,rfl⟩:=List.getElem?_eq_some_iff.1 hx;exact hv)
  rw [Nat.zero_add] at this;exact this
theorem et {w w':World} {r:Option Nat} (h:Below w.heap.size w w'):w.grownBy w' r:=
 ⟨h.os,h.tape,h.output,h.size,fun i hi _=>h.block i hi⟩
theorem dk (w:World) (r:Option Nat):w.grownBy w.drew r:=et (Below.refl _ _).drew
theorem bM {B:Nat} {a w:World} {g:Nat} (h:Below B a w) (hg:B<=g) (x y z u:Value):Below B a ((((w.setCell ⟨g,0,none⟩ x).setCell ⟨g,1,none⟩ y).setCell ⟨g,2,none⟩ z).setCell ⟨g,3,none⟩ u):=
 (aS h hg x y z).setCell (p:=⟨g,3,none⟩) hg u
def dd (q:Bool) (X:Bool × Int × Int × Int):Bool × Int × Int × Int:=if q=true then X else (false,0,0,0)
def cg (q:Bool) (X:Bool × Int × Int × Int) (e:Ending):Prop:=
 e=.returned (.tuple #[.agg #[.bool (dd q X).1,.int .i64 (dd q X).2.1,.int .i64 (dd q X).2.2.1,.int .u64 (dd q X).2.2.2],.bool q])
end Go.Proofs.Ytfgogedgolgnaaa
