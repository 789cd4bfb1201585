import Derived.Test.YtfgogedgolgnaaaHk04
import Derived.Deep.MidRow
import Derived.OrdersHeld
namespace Go.Proofs.Ytfgogedgolgnaaa
open Go.RowKit
set_option linter.unusedVariables false
set_option maxHeartbeats 6400000
set_option maxRecDepth 20000
theorem bK (n m:Int) (w:World) (h:(n=0∧m=0)∨(n=3∧m=7)∨(n=6∧m=63)∨(n=9∧m=511)∨(n=12∧m=4095)∨(n=44∧m=17592186044415)∨(n=50∧m=1125899906842623)∨(n=15∧m=32767)∨(n=16∧m=65535)):
 Calls Try.prog 98 #[.int .i64 n] w fun e w'=>e=.returned (.int .u64 m)∧w'=w:=by
 rcases h with ⟨rfl,rfl⟩ | ⟨rfl,rfl⟩ | ⟨rfl,rfl⟩ | ⟨rfl,rfl⟩ | ⟨rfl,rfl⟩ | ⟨rfl,rfl⟩ | ⟨rfl,rfl⟩ | ⟨rfl,rfl⟩ | ⟨rfl,rfl⟩;all_goals
  go_enter Try.func98,Try.ntmps98;go_wp2_with fail;go_ret;exact ⟨rfl,rfl⟩
theorem bt (x m:Int) (w:World):
 Calls Try.prog 93 #[.int .u64 x,.int .u64 m] w fun e w'=>e=.returned (.bool (dc x m))∧w'=w:=by
 go_enter Try.func93,Try.ntmps93;go_wp2_with fail;go_ret;exact ⟨rfl,rfl⟩
theorem iH (x:Int) (w:World) (h0:0<=x) (h1:x<=18446744073709551615):
 Calls Try.prog 120 #[.int .u64 x] w fun e w'=>e=.returned (.int .u64 (bb x))∧w'=w:=by
 have H:Hid (bits .and .u64 (x/1024) 17592186044415=bb x):=cV 44 (x/1024) 17592186044415 rfl (by omega) (by omega) (by omega);go_enter Try.func120,Try.ntmps120;go_wp2_with (go_at_call 98;refine (bK 44 17592186044415 _ (by omega)).mono ?_;rintro e w' ⟨rfl,rfl⟩);go_ret;exact ⟨eH H.out,rfl⟩
theorem ey (x:Int) (w:World) (h0:0<=x) (h1:x<=18446744073709551615):
 Calls Try.prog 119 #[.int .u64 x] w fun e w'=>e=.returned (.int .u64 (x/18014398509481984%1024))∧w'=w:=by
 have H:Hid (x/18014398509481984=x/18014398509481984%1024):=show _=_ by omega
 go_enter Try.func119,Try.ntmps119;go_wp2_with fail;go_ret;exact ⟨eH H.out,rfl⟩
def dC (x:Int):Bool:=aF x 1 && (x/18014398509481984%1024 == 0) && !(aF x 4 && !aF x 2)
theorem bW (x:Int) (w:World) (h0:0<=x) (h1:x<=18446744073709551615):
 Calls Try.prog 117 #[.int .u64 x] w fun e w'=>e=.returned (.bool (dC x))∧w'=w:=by
 have HV:Hid (dc x 1=aF x 1):=bf 0 x 1 rfl (by omega) h0 h1;have HR:Hid (dc x 2=aF x 2):=bf 1 x 2 rfl (by omega) h0 h1;have HW:Hid (dc x 4=aF x 4):=bf 2 x 4 rfl (by omega) h0 h1;cases hw:aF x 4 <;> cases hr:aF x 2 <;> cases hv:aF x 1;all_goals
  go_enter Try.func117,Try.ntmps117;go_wp2_with (first
   | (go_at_call 93;refine (bt x _ _).mono ?_;rintro e w' ⟨rfl,rfl⟩;first | rw [HW.out,hw] | rw [HR.out,hr] | rw [HV.out,hv])
   | (go_at_call 119;refine (ey x _ h0 h1).mono ?_;rintro e w' ⟨rfl,rfl⟩))
  all_goals
   go_ret;exact ⟨ag (by simp [dC,hw,hr,hv];try assumption),rfl⟩
theorem dD (x level:Int) (w:World) (h0:0<=x) (h1:x<=18446744073709551615) (hl:level=0∨level=1∨level=2):
 Calls Try.prog 118 #[.int .u64 x,.int .i64 level] w fun e w'=>e=.returned (.bool (bb x%bE level == 0))∧w'=w:=by
 have hpp:0<=bb x∧bb x<17592186044416:=⟨Int.emod_nonneg _ (by omega),Int.emod_lt_of_pos _ (by omega)⟩;have HP:∀w,Hid (Calls Try.prog 120 #[.int .u64 x] w fun e w'=>e=.returned (.int .u64 (bb x))∧w'=w):=fun w=>iH x w h0 h1;generalize bb x=p at *;rcases hl with rfl | rfl | rfl
 ·have H:Hid ((bits .and .u64 p 0 == 0)=(p%bE 0 == 0)):=by
   show _=_;rw [cV 0 p 0 rfl (by omega) hpp.1 (by omega)];rfl
  go_enter Try.func118,Try.ntmps118;go_wp2_with (first
   | (go_at_call 120;refine ((HP _).out).mono ?_;rintro e w' ⟨rfl,rfl⟩)
   | (go_at_call 98;refine (bK 0 0 _ (by omega)).mono ?_;rintro e w' ⟨rfl,rfl⟩))
  go_ret;exact ⟨ag H.out,rfl⟩
 ·have H:Hid ((bits .and .u64 p 7 == 0)=(p%bE 1 == 0)):=by
   show _=_;rw [cV 3 p 7 rfl (by omega) hpp.1 (by omega)];rfl
  go_enter Try.func118,Try.ntmps118;go_wp2_with (first
   | (go_at_call 120;refine ((HP _).out).mono ?_;rintro e w' ⟨rfl,rfl⟩)
   | (go_at_call 98;refine (bK 3 7 _ (by omega)).mono ?_;rintro e w' ⟨rfl,rfl⟩))
  go_ret;exact ⟨ag H.out,rfl⟩
 ·have H:Hid ((bits .and .u64 p 63 == 0)=(p%bE 2 == 0)):=by
   show _=_;rw [cV 6 p 63 rfl (by omega) hpp.1 (by omega)];rfl
  go_enter Try.func118,Try.ntmps118;go_wp2_with (first
   | (go_at_call 120;refine ((HP _).out).mono ?_;rintro e w' ⟨rfl,rfl⟩)
   | (go_at_call 98;refine (bK 6 63 _ (by omega)).mono ?_;rintro e w' ⟨rfl,rfl⟩))
  go_ret;exact ⟨ag H.out,rfl⟩
theorem aJ (l:Int) (w:World):
 Calls Try.prog 91 #[.int .i64 l] w fun e w'=>e=.returned (.bool (decide (0<=l∧l<=2)))∧w'=w:=by
 by_cases h:0<=l
 ·go_enter Try.func91,Try.ntmps91;go_wp2_with fail;go_ret;exact ⟨ag (by simp [h]),rfl⟩
 ·go_enter Try.func91,Try.ntmps91;go_wp2_with fail;go_ret;exact ⟨ag (by simp;omega),rfl⟩
theorem fV (x level:Int) (w:World) (h0:0<=x) (h1:x<=18446744073709551615):
 Calls Try.prog 116 #[.int .u64 x,.int .i64 level] w fun e w'=>e=.returned (.int .i64 (aw x level))∧w'=w:=by
 by_cases hlev:0<=level∧level<=2
 ·have hk:decide (0<=level∧level<=2)=true:=by simpa using hlev
  have HK:Hid (decide (0<=level∧level<=2)=true):=hk;have hl:level=0∨level=1∨level=2:=by omega
  clear hk hlev;have HR:Hid (dc x 14=(aF x 2 || aF x 4 || aF x 8)):=gO x h0 h1;have HU:Hid (dc x 208=(aF x 16 || aF x 64 || aF x 128)):=gP x h0 h1;cases hs:dC x
  ·have HE:Hid (aw x level=0):=by
    show _=_;simp only [aw];rw [if_pos];simp only [dC] at hs;cases hv:aF x 1
    ·simp
    ·rw [hv] at hs;by_cases hb:0<x/18014398509481984%1024
     ·simp [hb]
     ·have hb':x/18014398509481984%1024=0:=by omega
      rw [hb'] at hs |-;simp at hs;simp [hs]
   go_enter Try.func116,Try.ntmps116;go_wp2_with (first
    | (go_at_call 91;refine (aJ level _).mono ?_;rintro e w' ⟨rfl,rfl⟩;rw [HK.out])
    | (go_at_call 117;refine (bW x _ h0 h1).mono ?_;rintro e w' ⟨rfl,rfl⟩;rw [hs]))
   go_ret;exact ⟨aC HE.out.symm,rfl⟩
  ·have hn:¬(level<0∨2<level∨aF x 1=false∨0<x/18014398509481984%1024∨(aF x 4=true∧aF x 2=false)):=by
    simp only [dC,Bool.and_eq_true,beq_iff_eq,Bool.not_eq_true',Bool.and_eq_false_iff,Bool.not_eq_false'] at hs;obtain ⟨⟨a1,a2⟩,a3⟩:=hs;rw [a1,a2];rcases a3 with a3 | a3
    ·simp [a3];omega
    ·simp [a3];omega
   have HE:Hid (aw x level=if aF x 2=false∧aF x 4=false∧aF x 8=false then (if level=0∨aF x 16=true∨aF x 64=true∨aF x 128=true then 0 else 1) else if 0<bb x%bE level then 0 else 2):=by
    show _=_;rw [aw,if_neg hn]
   clear hn;cases hr:(aF x 2 || aF x 4 || aF x 8)
   ·simp only [Bool.or_eq_false_iff] at hr;have HE2:Hid (aw x level=if level=0∨aF x 16=true∨aF x 64=true∨aF x 128=true then 0 else 1):=by
     show _=_;rw [HE.out,if_pos ⟨hr.1.1,hr.1.2,hr.2⟩]
    clear HE;have HR':Hid (dc x 14=false):=by show _=_;rw [HR.out,hr.1.1,hr.1.2,hr.2];rfl
    clear HR hr;by_cases hz:level=0
    ·subst hz;go_enter Try.func116,Try.ntmps116;go_wp2_with (first
      | (go_at_call 91;refine (aJ 0 _).mono ?_;rintro e w' ⟨rfl,rfl⟩;rw [HK.out])
      | (go_at_call 117;refine (bW x _ h0 h1).mono ?_;rintro e w' ⟨rfl,rfl⟩;rw [hs])
      | (go_at_call 93;refine (bt x _ _).mono ?_;rintro e w' ⟨rfl,rfl⟩;rw [HR'.out]))
     go_ret;exact ⟨aC (by rw [HE2.out];simp),rfl⟩
    ·have hz':(level == 0)=false:=by simpa using hz
     cases hu:(aF x 16 || aF x 64 || aF x 128)
     ·have HE3:Hid (aw x level=1):=by
       show _=_;simp only [Bool.or_eq_false_iff] at hu;rw [HE2.out,hu.1.1,hu.1.2,hu.2];simp [hz]
      go_enter Try.func116,Try.ntmps116;go_wp2_with (first
       | (go_at_call 91;refine (aJ level _).mono ?_;rintro e w' ⟨rfl,rfl⟩;rw [HK.out])
       | (go_at_call 117;refine (bW x _ h0 h1).mono ?_;rintro e w' ⟨rfl,rfl⟩;rw [hs])
       | (go_at_call 93;refine (bt x _ _).mono ?_;rintro e w' ⟨rfl,rfl⟩;first | rw [HR'.out] | rw [HU.out,hu]))
      go_ret;exact ⟨aC HE3.out.symm,rfl⟩
     ·have HE3:Hid (aw x level=0):=by
       show _=_;simp only [Bool.or_eq_true] at hu;rw [HE2.out,if_pos];rcases hu with (hu | hu) | hu <;> simp [hu]
      go_enter Try.func116,Try.ntmps116;go_wp2_with (first
       | (go_at_call 91;refine (aJ level _).mono ?_;rintro e w' ⟨rfl,rfl⟩;rw [HK.out])
       | (go_at_call 117;refine (bW x _ h0 h1).mono ?_;rintro e w' ⟨rfl,rfl⟩;rw [hs])
       | (go_at_call 93;refine (bt x _ _).mono ?_;rintro e w' ⟨rfl,rfl⟩;first | rw [HR'.out] | rw [HU.out,hu]))
      go_ret;exact ⟨aC HE3.out.symm,rfl⟩
   ·have HR':Hid (dc x 14=true):=by show _=_;rw [HR.out,hr]
    have HE2:Hid (aw x level=if 0<bb x%bE level then 0 else 2):=by
     show _=_;rw [HE.out,if_neg];rintro ⟨q1,q2,q3⟩;rw [q1,q2,q3] at hr;cases hr
    clear HE HR hr;have hnn:0<=bb x%bE level:=by
     apply Int.emod_nonneg;rcases hl with rfl | rfl | rfl <;> decide
    cases ha:(bb x%bE level == 0)
    ·have HE3:Hid (aw x level=0):=by
      show _=_;have:bb x%bE level≠0:=by simpa using ha
      rw [HE2.out,if_pos (by omega)]
     clear hnn;go_enter Try.func116,Try.ntmps116;go_wp2_with (first
      | (go_at_call 91;refine (aJ level _).mono ?_;rintro e w' ⟨rfl,rfl⟩;rw [HK.out])
      | (go_at_call 117;refine (bW x _ h0 h1).mono ?_;rintro e w' ⟨rfl,rfl⟩;rw [hs])
      | (go_at_call 93;refine (bt x _ _).mono ?_;rintro e w' ⟨rfl,rfl⟩;rw [HR'.out])
      | (go_at_call 118;refine (dD x level _ h0 h1 hl).mono ?_;rintro e w' ⟨rfl,rfl⟩;rw [ha]))
     go_ret;exact ⟨aC HE3.out.symm,rfl⟩
    ·have HE3:Hid (aw x level=2):=by
      show _=_;have:bb x%bE level=0:=by simpa using ha
      rw [HE2.out,if_neg (by omega)]
     clear hnn;go_enter Try.func116,Try.ntmps116;go_wp2_with (first
      | (go_at_call 91;refine (aJ level _).mono ?_;rintro e w' ⟨rfl,rfl⟩;rw [HK.out])
      | (go_at_call 117;refine (bW x _ h0 h1).mono ?_;rintro e w' ⟨rfl,rfl⟩;rw [hs])
      | (go_at_call 93;refine (bt x _ _).mono ?_;rintro e w' ⟨rfl,rfl⟩;rw [HR'.out])
      | (go_at_call 118;refine (dD x level _ h0 h1 hl).mono ?_;rintro e w' ⟨rfl,rfl⟩;rw [ha]))
     go_ret;exact ⟨aC HE3.out.symm,rfl⟩
 ·have HK:Hid (decide (0<=level∧level<=2)=false):=by show _=_;simpa using hlev
  have HE:Hid (aw x level=0):=by
   show _=_;rw [aw,if_pos (by omega)]
  clear hlev;go_enter Try.func116,Try.ntmps116;go_wp2_with (go_at_call 91;refine (aJ level _).mono ?_;rintro e w' ⟨rfl,rfl⟩;rw [HK.out]);go_ret;exact ⟨aC HE.out.symm,rfl⟩
def iT (acc:List ce) (r:Int × Int × Int × List ce):Int × Int × Int × List ce:=(r.1,r.2.1,r.2.2.1,acc++r.2.2.2)
theorem gq (zs:List Int) (va:Int) (k:Nat) (n:Int) (h:dy zs.length (64*n+8*bh va k) 8=false):aR zs va k n=(3,(k:Int),0,[]):=by
 unfold aR;rw [if_pos h]
theorem gt (zs:List Int) (va:Int) (k:Nat) (n:Int) (h:dy zs.length (64*n+8*bh va k) 8=true) (hk:aw (rdV zs (64*n+8*bh va k) 8) k=0):aR zs va k n=(2,(k:Int),0,[]):=by
 unfold aR;rw [if_neg (by rw [h];simp),if_pos hk]
theorem fD (zs:List Int) (va:Int) (k:Nat) (n:Int) (h:dy zs.length (64*n+8*bh va k) 8=true) (hk:aw (rdV zs (64*n+8*bh va k) 8) k=2):aR zs va k n=(1,(k:Int),rdV zs (64*n+8*bh va k) 8,[((k:Int),64*n+8*bh va k,rdV zs (64*n+8*bh va k) 8)]):=by
 unfold aR;rw [if_neg (by rw [h];simp),if_neg (by rw [hk];decide),if_pos hk]
theorem fE (zs:List Int) (va:Int) (k:Nat) (n:Int) (h:dy zs.length (64*n+8*bh va ((k+1:Nat):Int)) 8=true) (hk:aw (rdV zs (64*n+8*bh va ((k+1:Nat):Int)) 8) ((k+1:Nat):Int)=1):
 aR zs va (k+1) n=iT [(((k+1:Nat):Int),64*n+8*bh va ((k+1:Nat):Int),rdV zs (64*n+8*bh va ((k+1:Nat):Int)) 8)] (aR zs va k (bb (rdV zs (64*n+8*bh va ((k+1:Nat):Int)) 8))):=by
 rw [aR,if_neg (by rw [h];simp),if_neg (by rw [hk];decide),if_neg (by rw [hk];decide)];rfl
theorem gT (va l:Int) (hl:l=0∨l=1∨l=2):0<=eR va l∧eR va l<=511:=by
 rcases hl with rfl | rfl | rfl <;> simp only [eR] <;> (try simp) <;> omega
theorem eg (va asid l:Int):∀(es:List EntM) (i k:Nat) (x:EntM),cA va asid l i es=some (k,x)->∃j,k=i+j∧es[j]?=some x∧iC va asid l x=true
 | [],i,k,x,h=>by cases h
 | e::r,i,k,x,h=>by
  rw [cA] at h;split at h
  ·rename_i hh;cases h;exact ⟨0,rfl,rfl,hh⟩
  ·obtain ⟨j,rfl,h2,h3⟩:=eg va asid l r (i+1) k x h;exact ⟨j+1,by omega,by simpa using h2,h3⟩
theorem eF (t:TlbM) (va asid:Int) (h:(aS t va asid).1=true):∃(k:Nat) (x:EntM),t.es[k]?=some x∧(aS t va asid).2.1=(k:Int)∧(aS t va asid).2.2.1=x.level∧(aS t va asid).2.2.2=x.pte∧fU x va asid=true∧x.valid=true:=by
 have key:∀(l:Int) (k:Nat) (x:EntM),cA va asid l 0 t.es=some (k,x)->t.es[k]?=some x∧l=x.level∧fU x va asid=true∧x.valid=true:=by
  intro l k x hf;obtain ⟨j,rfl,h2,h3⟩:=eg va asid l t.es 0 k x hf;simp only [iC,Bool.and_eq_true,beq_iff_eq] at h3;have hv:x.valid=true:=by
   have:=h3.2;simp only [fU,Bool.and_eq_true] at this;exact this.1.1
  exact ⟨by rw [Nat.zero_add];exact h2,h3.1.symm,h3.2,hv⟩
 unfold aS at h |-;split at h
 ·cases h
 ·rename_i he;rw [if_neg he];cases h0:cA va asid 0 0 t.es with
  | some y=>
   obtain ⟨k,x⟩:=y;obtain ⟨a1,a2,a3,a4⟩:=key 0 k x h0;exact ⟨k,x,a1,by simp [bS],by simp [bS,<-a2],by simp [bS],a3,a4⟩
  | none=>
   cases h1:cA va asid 1 0 t.es with
   | some y=>
    obtain ⟨k,x⟩:=y;obtain ⟨a1,a2,a3,a4⟩:=key 1 k x h1;exact ⟨k,x,a1,by simp [bS],by simp [bS,<-a2],by simp [bS],a3,a4⟩
   | none=>
    cases h2:cA va asid 2 0 t.es with
    | some y=>
     obtain ⟨k,x⟩:=y;obtain ⟨a1,a2,a3,a4⟩:=key 2 k x h2;exact ⟨k,x,a1,by simp [bS],by simp [bS,<-a2],by simp [bS],a3,a4⟩
    | none=>
     rw [h0,h1,h2] at h;simp [bS] at h
def eb (r:Int × Int × Int × List ce) (k:Nat) (ps:List ce):Prop:=
 (∀p∈ps,aw p.2.2 p.1=1∧0<=p.1∧p.1<=k∧0<=p.2.2∧p.2.2<=18446744073709551615)∧
 ((r.1=1∧(∃ad,r.2.2.2=ps++[(r.2.1,ad,r.2.2.1)])∧aw r.2.2.1 r.2.1=2∧0<=r.2.1∧r.2.1<=k∧0<=r.2.2.1∧r.2.2.1<=18446744073709551615)∨((r.1=2∨r.1=3)∧r.2.2.2=ps∧r.2.2.1=0))
theorem cj (zs:List Int) (va:Int) (hz:∀i:Nat,0<=zs[i]?.getD 0∧zs[i]?.getD 0<=255):∀(k:Nat) (n:Int),∃ps,eb (aR zs va k n) k ps∧ps.length<=k
 | k,n=>by
  cases hg:dy zs.length (64*n+8*bh va k) 8
  ·rw [gq zs va k n hg];exact ⟨[],⟨by simp,.inr ⟨.inr rfl,rfl,rfl⟩⟩,by simp⟩
  ·have hb:=fy zs (64*n+8*bh va k) 8 (by omega) hz;rcases gj (rdV zs (64*n+8*bh va k) 8) (k:Int) with hk | hk | hk
   ·rw [gt zs va k n hg hk];exact ⟨[],⟨by simp,.inr ⟨.inl rfl,rfl,rfl⟩⟩,by simp⟩
   ·cases k with
    | zero=>exact absurd hk (dz _)
    | succ k'=>
     rw [fE zs va k' n hg hk];obtain ⟨ps,⟨h1,h2⟩,h3⟩:=cj zs va hz k' (bb (rdV zs (64*n+8*bh va ((k'+1:Nat):Int)) 8));refine ⟨(((k'+1:Nat):Int),64*n+8*bh va ((k'+1:Nat):Int),rdV zs (64*n+8*bh va ((k'+1:Nat):Int)) 8)::ps,⟨?_,?_⟩,by simp;omega⟩
     ·intro p hp;rcases List.mem_cons.1 hp with rfl | hp
      ·exact ⟨hk,by simp only;omega,by simp only;omega,hb.1,hb.2⟩
      ·obtain ⟨q1,q2,q3,q4⟩:=h1 p hp;exact ⟨q1,q2,by omega,q4⟩
     ·simp only [iT];rcases h2 with ⟨e1,⟨ad,e2⟩,e3,e4,e5,e6⟩ | ⟨e1,e2,e3⟩
      ·exact .inl ⟨e1,⟨ad,by rw [e2];rfl⟩,e3,e4,by omega,e6⟩
      ·exact .inr ⟨e1,by rw [e2];rfl,e3⟩
   ·rw [fD zs va k n hg hk];exact ⟨[],⟨by simp,.inl ⟨rfl,⟨_,rfl⟩,hk,by simp only;omega,Int.le_refl _,hb.1,hb.2⟩⟩,by simp⟩
theorem eP (zs:List Int) (root va:Int) (hz:∀i:Nat,0<=zs[i]?.getD 0∧zs[i]?.getD 0<=255):∃ps,eb (bj zs root va) 2 ps∧ps.length<=2:=by
 unfold bj;split
 ·exact ⟨[],⟨by simp,.inr ⟨.inl rfl,rfl,rfl⟩⟩,by simp⟩
 ·exact cj zs va hz 2 _
theorem fw {r:Int × Int × Int × List ce} {k k':Nat} {ps:List ce} (h:eb r k ps) (hk:k<=k'):eb r k' ps:=by
 obtain ⟨h1,h2⟩:=h;refine ⟨fun p hp=>?_,?_⟩
 ·obtain ⟨q1,q2,q3,q4⟩:=h1 p hp;exact ⟨q1,q2,by omega,q4⟩
 ·rcases h2 with ⟨e1,e2,e3,e4,e5,e6⟩ | h2
  ·exact .inl ⟨e1,e2,e3,e4,by omega,e6⟩
  ·exact .inr h2
theorem dP (zs:List Int) (satp va:Int) (t:TlbM) (asid:Int) (ht:ap t true=true) (hz:∀i:Nat,0<=zs[i]?.getD 0∧zs[i]?.getD 0<=255):∃ps,eb (aQ zs satp va (aS t va asid)) 2 ps∧ps.length<=2:=by
 unfold aQ;split
 ·rename_i hf;obtain ⟨q,x,h1,h2,h3,h4,h5,h6⟩:=eF t va asid hf;have hl:=cK (ek ht) q x h1 h6;have hle:((aS t va asid).2.2.1-1).toNat<=2:=by rw [h3];omega
  obtain ⟨ps,a1,a2⟩:=cj zs va hz ((aS t va asid).2.2.1-1).toNat (bb (aS t va asid).2.2.2);exact ⟨ps,fw a1 hle,by omega⟩
 ·exact eP zs satp va hz
theorem fx (t:TlbM) (e:EntM) (pick:Int):(bC t e pick).es.length=t.es.length∧(bC t e pick).sets=t.sets∧(bC t e pick).ways=t.ways:=by
 unfold bC;split
 ·simp
 ·exact ⟨rfl,rfl,rfl⟩
theorem iq (t:TlbM) (va asid:Int) (he:∀e∈t.es,aV e) (h:(aS t va asid).1=true):(0<=(aS t va asid).2.2.2∧(aS t va asid).2.2.2<=18446744073709551615)∧(-9223372036854775808<=(aS t va asid).2.2.1∧(aS t va asid).2.2.1<=9223372036854775807):=by
 obtain ⟨k,x,hx,_,hl,hp,_⟩:=eF t va asid h;have hk:=he x (List.mem_of_getElem? hx);rw [hl,hp];exact ⟨hk.2.2.2,hk.1⟩
theorem gv (zs:List Int) (root va:Int):(bj zs root va).2.2.2.length<=3:=by
 unfold bj;split
 ·simp
 ·exact dd zs va 2 _
structure WalkLim (r:Int × Int × Int × List ce):Prop where
 len:r.2.2.2.length<=3
 pte:0<=r.2.2.1∧r.2.2.1<=18446744073709551615
 level:0<=r.2.1∧r.2.1<=2
 recs:∀x∈r.2.2.2,(0<=x.1∧x.1<=2)∧0<=x.2.2∧x.2.2<=18446744073709551615
theorem dF {r:Int × Int × Int × List ce} {ps:List ce} (h:eb r 2 ps):∀x∈r.2.2.2,(0<=x.1∧x.1<=2)∧0<=x.2.2∧x.2.2<=18446744073709551615:=by
 obtain ⟨h1,h2⟩:=h;intro x hx;rcases h2 with ⟨_,⟨ad,e⟩,_,e4,e5,e6,e7⟩ | ⟨_,e,_⟩
 ·rw [e] at hx;rcases List.mem_append.1 hx with hx | hx
  ·obtain ⟨_,q2,q3,q4,q5⟩:=h1 x hx;exact ⟨⟨q2,by omega⟩,q4,q5⟩
  ·have:x=(r.2.1,ad,r.2.2.1):=by simpa using hx
   subst this;exact ⟨⟨e4,by omega⟩,e6,e7⟩
 ·rw [e] at hx;obtain ⟨_,q2,q3,q4,q5⟩:=h1 x hx;exact ⟨⟨q2,by omega⟩,q4,q5⟩
theorem eB (zs:List Int) (satp va:Int) (t:TlbM) (asid:Int) (ht:ap t true=true) (he:∀e∈t.es,aV e) (hz:∀i:Nat,0<=zs[i]?.getD 0∧zs[i]?.getD 0<=255):
 ((aS t va asid).1=true->∃l:Nat,(aS t va asid).2.2.1=(l:Int)+1∧l<=1∧0<=(aS t va asid).2.2.2∧(aS t va asid).2.2.2<=18446744073709551615∧aQ zs satp va (aS t va asid)=aR zs va l (bb (aS t va asid).2.2.2))∧
 ((aS t va asid).1=false->aQ zs satp va (aS t va asid)=bj zs satp va)∧WalkLim (aQ zs satp va (aS t va asid)):=by
 obtain ⟨ps,hs,_⟩:=dP zs satp va t asid ht hz;cases hf:(aS t va asid).1
 ·have e:aQ zs satp va (aS t va asid)=bj zs satp va:=by rw [aQ,if_neg (by rw [hf];simp)]
  have hb:=gN zs satp va hz;refine ⟨fun h=>(by cases h),fun _=>e,?_⟩;have hr:=dF hs;rw [e] at hr |-;exact ⟨gv zs satp va,⟨hb.1,hb.2.1⟩,hb.2.2,hr⟩
 ·obtain ⟨q,x,h1,h2,h3,h4,h5,h6⟩:=eF t va asid hf;have hl:=cK (ek ht) q x h1 h6;have hpl:=fd ht q x h1;have hlim:=(iq t va asid he hf).1;have hk1:x.level≠0:=by
   intro h0;have hg:ah x true=true:=by
    simp only [ai,Bool.or_eq_true,Bool.and_eq_true] at hpl;have h7:ah x true=true∧x.tag%t.sets=q/t.ways:=by simpa [h6] using hpl
    exact h7.1
   have:=gA hg;rw [h0] at this;exact dz _ this
  have e:aQ zs satp va (aS t va asid)=aR zs va ((aS t va asid).2.2.1-1).toNat (bb (aS t va asid).2.2.2):=by rw [aQ,if_pos hf]
  have hb:=dE zs va hz ((aS t va asid).2.2.1-1).toNat (bb (aS t va asid).2.2.2) (by rw [h3];omega);refine ⟨fun _=>⟨((aS t va asid).2.2.1-1).toNat,by rw [h3];omega,by rw [h3];omega,hlim.1,hlim.2,e⟩,fun h=>(by cases h),?_⟩;have hr:=dF hs;have hln:=dd zs va ((aS t va asid).2.2.1-1).toNat (bb (aS t va asid).2.2.2);rw [e] at hr |-;exact ⟨by rw [h3] at hln |-;omega,⟨hb.1,hb.2.1⟩,hb.2.2,hr⟩
theorem fS (level va satp pte:Int) (hl:0<=level∧level<=2) (hp:0<=pte∧pte<=18446744073709551615):aV (dS level va satp pte):=by
 have ht:=gT va level (by omega);refine ⟨⟨by simp only [dS];omega,by simp only [dS];omega⟩,⟨ht.1,?_⟩,?_,hp⟩
 ·simp only [dS];omega
 ·simp only [dS,bk];omega
theorem ec {t:TlbM} {e:EntM} (pick:Int) (ht:bw t) (he:aV e):bw (bC t e pick):=by
 obtain ⟨l1,l2,l3⟩:=fx t e pick;obtain ⟨h1,h2,h3,h4⟩:=ht;refine ⟨?_,by rw [l2];exact h2,by rw [l3];exact h3,by rw [l1];exact h4⟩;unfold bC;split
 ·intro x hx;simp only at hx;rcases List.mem_or_eq_of_mem_set hx with hx | rfl
  ·exact h1 x hx
  ·exact he
 ·exact h1
theorem fT (va satp pick:Int):∀(rs:List ce) (p:TlbM),bw p->(∀x∈rs,(0<=x.1∧x.1<=2)∧0<=x.2.2∧x.2.2<=18446744073709551615)->bw (ej va satp pick rs p)
 | [],p,h,_=>h
 | r::rs,p,h,hx=>by
  rw [ej];refine fT va satp pick rs _ ?_ fun x hx'=>hx x (List.mem_cons_of_mem _ hx');have hr:=hx r (List.mem_cons_self ..);split
  ·exact ec pick h (fS _ _ _ _ hr.1 hr.2)
  ·exact h
def fR (zs:List Int):Prop:=∀i:Nat,0<=zs[i]?.getD 0∧zs[i]?.getD 0<=255
def iD (zs:List Int):Prop:=∀i:Nat,0<=zs[i]?.getD 0∧zs[i]?.getD 0<=18446744073709551615
def inU (x:Int):Prop:=0<=x∧x<=18446744073709551615
def kOk (k:KM):Prop:=bw k.i∧bw k.d∧bw k.p
structure HOk (h:HartM):Prop where
 valid:aT h=true
 mem:fR h.mem
 regs:iD h.regs
 pc:inU h.pc
 satp:inU h.satp
 tvec:inU h.tvec
 epc:inU h.epc
 tval:inU h.tval
 ks:kOk h.k
structure ROk (r:RunM):Prop where
 h:HOk r.h
 cause:0<=r.cause∧r.cause<=63
 tval:inU r.tval
 looks:∀l∈r.looks,(0<=l.1∧l.1<=2)∧inU l.2
 fva:inU r.fence.va
 fas:inU r.fence.asid
structure VH (h:HartM):Prop where
 size:bc h.mem.length=true
 regs:h.regs.length=8
 zero:h.regs[0]?.getD 0=0
 mode:0<=h.mode∧h.mode<=2
 emode:0<=h.emode∧h.emode<=2
 satp:aY h.satp=true
 tvec:h.tvec%4=0
 cause:0<=h.cause∧h.cause<=63
 ks:aK h.k=true
theorem dY (h:HartM):aT h=true↔VH h:=by
 simp only [aT,bo,Bool.and_eq_true,decide_eq_true_eq,beq_iff_eq];constructor
 ·rintro ⟨⟨a,⟨⟨⟨⟨⟨⟨b,c⟩,d⟩,e⟩,f⟩,g⟩,i⟩⟩,j⟩;exact ⟨a,b,c,d,e,f,g,i,j⟩
 ·rintro ⟨a,b,c,d,e,f,g,i,j⟩;exact ⟨⟨a,⟨⟨⟨⟨⟨⟨b,c⟩,d⟩,e⟩,f⟩,g⟩,i⟩⟩,j⟩
theorem HOk.v {h:HartM} (k:HOk h):VH h:=(dY h).1 k.valid
theorem gG (pte level va:Int):inU (gV pte level va):=by
 have hp:0<=bb pte∧bb pte<17592186044416:=by unfold bb;omega
 unfold gV fX inU;split
 ·omega
 ·split
  ·omega
  ·split <;> omega
theorem dw (kind:Int):0<=dk kind∧dk kind<=63:=by unfold dk;split;omega;split <;> omega
theorem ft (kind:Int):0<=cw kind∧cw kind<=63:=by unfold cw;split;omega;split <;> omega
theorem eM (pte level mode:Int) (sum mxr:Bool) (kind va:Int):(0<=(el pte level mode sum mxr kind va).1∧(el pte level mode sum mxr kind va).1<=63)∧inU (el pte level mode sum mxr kind va).2:=by
 unfold el;split
 ·exact ⟨⟨by simp,by simp⟩,gG _ _ _⟩
 ·exact ⟨dw kind,by simp [inU]⟩
theorem dx (r:Int × Int × Int × List ce) (mode:Int) (sum mxr:Bool) (kind va:Int):(0<=(cf r mode sum mxr kind va).1∧(cf r mode sum mxr kind va).1<=63)∧inU (cf r mode sum mxr kind va).2:=by
 unfold cf;split
 ·exact ⟨dw kind,by simp [inU]⟩
 ·split
  ·exact ⟨ft kind,by simp [inU]⟩
  ·exact eM _ _ _ _ _ _ _
theorem gb (zs:List Int) (mode:Int) (sum mxr:Bool) (satp kind va:Int) (hv:inU va):(0<=(de zs mode sum mxr satp kind va).1∧(de zs mode sum mxr satp kind va).1<=63)∧inU (de zs mode sum mxr satp kind va).2:=by
 unfold de;split
 ·exact ⟨⟨by simp,by simp⟩,by simp [inU]⟩
 ·split
  ·exact ⟨⟨by simp,by simp⟩,hv⟩
  ·exact dx _ _ _ _ _ _
theorem eN (zs:List Int) (mode:Int) (sum mxr:Bool) (satp:Int) (k:KM) (kind va pick:Int) (hz:fR zs) (hk:kOk k) (hv:inU va):
 kOk (bg zs mode sum mxr satp k kind va pick).2∧(0<=(bg zs mode sum mxr satp k kind va pick).1.1∧(bg zs mode sum mxr satp k kind va pick).1.1<=63)∧inU (bg zs mode sum mxr satp k kind va pick).1.2:=by
 unfold bg;by_cases hb:aK k=false∨kind<0∨2<kind∨mode<0∨2<mode∨pick<0∨255<pick
 ·rw [if_pos hb];have h0:bw fb:=⟨fun e he=>absurd he (by simp [fb]),by simp [fb],by simp [fb],by simp [fb]⟩;exact ⟨⟨h0,h0,h0⟩,⟨by simp,by simp⟩,by simp [inU]⟩
 ·rw [if_neg hb];have hg:aK k=true:=by
   cases hh:aK k
   ·exact absurd (.inl hh) hb
   ·rfl
  split
  ·exact ⟨hk,⟨by simp,by simp⟩,hv⟩
  ·split
   ·exact ⟨hk,dw kind,by simp [inU]⟩
   ·split
    ·have:=eM (aS (cS k kind) va (bk satp)).2.2.2 (aS (cS k kind) va (bk satp)).2.2.1 mode sum mxr kind va;exact ⟨hk,this.1,this.2⟩
    ·simp only;have hgp:ap k.p true=true:=by simp only [aK,Bool.and_eq_true] at hg;exact hg.2
     obtain ⟨_,_,hl⟩:=eB zs satp va k.p (bk satp) hgp hk.2.2.1 hz;have ha:=dx (aQ zs satp va (aS k.p va (bk satp))) mode sum mxr kind va;have hp:=fT va satp pick _ k.p hk.2.2 hl.recs;refine ⟨?_,ha.1,ha.2⟩;have ht:bw (cS k kind):=by unfold cS;split;exact hk.1;exact hk.2.1
     have hi:=ec pick ht (fS (aQ zs satp va (aS k.p va (bk satp))).2.1 va satp (aQ zs satp va (aS k.p va (bk satp))).2.2.1 hl.level hl.pte);split
     ·unfold iM;split
      ·exact ⟨hi,hk.2.1,hp⟩
      ·exact ⟨hk.1,hi,hp⟩
     ·exact ⟨hk.1,hk.2.1,hp⟩
theorem dZ {h:HartM} (hh:HOk h) (plain:Bool) {pick kind va:Int} (hp:0<=pick∧pick<=255) (hk:0<=kind∧kind<=2) (hv:inU va):
 HOk (iA h (bF plain pick h kind va).2)∧(0<=(bF plain pick h kind va).1.1∧(bF plain pick h kind va).1.1<=63)∧inU (bF plain pick h kind va).1.2:=by
 have v:=hh.v;cases plain
 ·have e:bF false pick h kind va=bg h.mem h.mode h.sum h.mxr h.satp h.k kind va pick:=rfl;rw [e];obtain ⟨t1,t2,t3⟩:=eN h.mem h.mode h.sum h.mxr h.satp h.k kind va pick hh.mem hh.ks hv;have tg:=fL h.mem h.mode h.sum h.mxr h.satp h.k kind va pick v.ks hk v.mode hp;refine ⟨⟨(dY _).2 ⟨v.size,v.regs,v.zero,v.mode,v.emode,v.satp,v.tvec,v.cause,tg⟩,hh.mem,hh.regs,hh.pc,hh.satp,hh.tvec,hh.epc,hh.tval,t1⟩,t2,t3⟩
 ·have e:bF true pick h kind va=(de h.mem h.mode h.sum h.mxr h.satp kind va,h.k):=rfl;rw [e];have:=gb h.mem h.mode h.sum h.mxr h.satp kind va hv;exact ⟨hh,this.1,this.2⟩
theorem gH {r:RunM} (hr:ROk r) (plain:Bool) {pick kind va:Int} (hp:0<=pick∧pick<=255) (hk:0<=kind∧kind<=2) (hv:inU va):ROk (fg plain pick r kind va):=by
 refine ⟨(dZ hr.h plain hp hk hv).1,hr.cause,hr.tval,?_,hr.fva,hr.fas⟩;intro l hl;rcases List.mem_append.1 hl with hl | hl
 ·exact hr.looks l hl
 ·rw [List.mem_singleton] at hl;subst hl;exact ⟨hk,hv⟩
def hY (ps:List dL):Prop:=∀p∈ps,inU p.1∧(1<=p.2.1∧p.2.1<=8)∧inU p.2.2
section
variable {P:Program} {ops:Array Oper} {Q:Exit->Act->World->Prop} {rest:List Oper} {a:Act}
theorem bl {d:Tmp} {T ty:TypeId} {x:Operand} {pos:String} {af:Array Edge} {w:World} {b o:Nat} {V:Value} (hx:a.eval x=.pointer (some ⟨b,o,none⟩)) (hl:(Instr.loadAt T (.pointer (some ⟨b,o,none⟩))).run P w=.ok V w)
 (h:wpList P ops Q rest (a.put (some d) V) w):wpList P ops Q ({ dst:=some d,op:=.load T x,type:=ty,pos:=pos,after:=af,guard:=none }::rest) a w:=
 wpList_plain rfl fun K hK=>by
  unfold Oper.wp execOp;simp only [hx,Sem.run_bind,hl,Result.andThen_ok,Sem.run_pure];exact hK _ _ h
theorem df {T ty:TypeId} {x y:Operand} {pos:String} {af:Array Edge} {w w':World} {b o:Nat} {V:Value} (hx:a.eval x=.pointer (some ⟨b,o,none⟩)) (hy:a.eval y=V) (hl:(Instr.storeAt T (.pointer (some ⟨b,o,none⟩)) V).run P w=.ok () w')
 (h:wpList P ops Q rest (a.put none undef) w'):wpList P ops Q ({ dst:=none,op:=.store T x y,type:=ty,pos:=pos,after:=af,guard:=none }::rest) a w:=
 wpList_plain rfl fun K hK=>by
  unfold Oper.wp execOp;simp only [hx,hy,Sem.run_bind,hl,Result.andThen_ok,Sem.run_pure];exact hK _ _ h
end
theorem em {w:World} {b:Nat} {C:Array Value} {t:TypeId} {fr:Nat × Nat} (hb:w.heap[b]?=some (.cells C t fr)) {o n:Nat} {L:List Value} (hL:(C.toList.drop o).take n=L):w.rangeAt b o L:=by
 intro j v hv;rw [<-hL,List.getElem?_take] at hv;split at hv
 ·rw [List.getElem?_drop] at hv;simp only [World.cell?,hb];simpa using hv
 ·cases hv
theorem bM {P:Program} {w:World} {b:Nat} {C:Array Value} {t:TypeId} {fr:Nat × Nat} (hb:w.heap[b]?=some (.cells C t fr)) {T:TypeId} {d:TypeDesc} (hu:P.underlying T=some d) (hd:d.isRow=true) {o n:Nat} (L:List Value) (hi:(P.info? T).map (·.size)=some n) (hL:(C.toList.drop o).take n=L) (hn:L.length=n):
 (Instr.loadAt T (.pointer (some ⟨b,o,none⟩))).run P w=.ok (.agg L.toArray) w:=
 run_loadAt_mid w b o T L d (em hb hL) hu hd (by rw [hn];exact hi)
theorem fo {P:Program} {w:World} {b:Nat} {C:Array Value} {t:TypeId} {fr:Nat × Nat} (hb:w.heap[b]?=some (.cells C t fr)) {T:TypeId} {d:TypeDesc} (hu:P.underlying T=some d) (hd:d.isRow=true) {o n:Nat} (L:List Value) (hi:(P.info? T).map (·.size)=some n) (hL:(C.toList.drop o).take n=L) (hn:L.length=n):
 (loadVar T ⟨b,o,none⟩).run P w=.ok (.agg L.toArray) w:=
 run_loadVar_mid w b o T L d (em hb hL) hu hd (by rw [hn];exact hi)
def fO (C:Array Value) (o:Nat) (L:List Value):Array Value:=(C.toList.take o++L++C.toList.drop (o+L.length)).toArray
theorem bR (b:Nat):∀(L:List Value) (o:Nat) (w:World) (C:Array Value) (t:TypeId) (fr:Nat × Nat),w.heap[b]?=some (.cells C t fr)->o+L.length<=C.size->(w.setCells b o L).heap[b]?=some (.cells (fO C o L) t fr)
 | [],o,w,C,t,fr,h,hl=>by simp [World.setCells,fO,h]
 | v::L,o,w,C,t,fr,h,hl=>by
  simp only [List.length_cons] at hl;have h1:(w.setCell ⟨b,o,none⟩ v).heap[b]?=some (.cells (C.setIfInBounds o v) t fr):=by
   simp [World.setCell,Array.getElem?_modify,h]
  have h2:=bR b L (o+1) _ _ t fr h1 (by simp;omega);have e:fO (C.setIfInBounds o v) (o+1) L=fO C o (v::L):=by
   unfold fO;congr 1;simp only [Array.toList_setIfInBounds,List.length_cons];have hlen:o<C.toList.length:=by simpa using (by omega:o<C.size)
   rw [List.take_add_one,List.take_set_of_le (Nat.le_refl _),List.getElem?_set_self hlen,List.drop_set_of_lt (by omega),show o+1+L.length=o+(L.length+1) by omega];simp
  rw [<-e];exact h2
theorem cp (b:Nat):∀(L:List Value) (o:Nat) (w v:World),w.grownBy v (some b)->w.grownBy (v.setCells b o L) (some b)
 | [],o,w,v,h=>h
 | x::L,o,w,v,h=>cp b L (o+1) w _ (au h o x)
theorem en {P:Program} {w:World} {b:Nat} {C:Array Value} {t:TypeId} (hb:w.heap[b]?=some (.cells C t (0,0))) {T:TypeId} {o:Nat} {V:Array Value} (hi:(P.info? T).map (·.size)=some V.size) (hs:o+V.size<=C.size) (h1:V.all (·.oneCell')=true):
 (Instr.storeAt T (.pointer (some ⟨b,o,none⟩)) (.agg V)).run P w=.ok () (w.setCells b o V.toList):=by
 refine run_storeAt_mid w b o T V (fun j hj=>?_) hi h1;refine ⟨?_,?_⟩
 ·have:o+j<C.size:=by omega
  simp [World.cell?,hb,this]
 ·simp [World.frozen?,hb]
theorem bp {w:World} {b:Nat} {C:Array Value} {t:TypeId} {fr:Nat × Nat} (hb:w.heap[b]?=some (.cells C t fr)) (i:Nat) (v:Value):(w.setCell ⟨b,i,none⟩ v).heap[b]?=some (.cells (C.setIfInBounds i v) t fr):=by
 simp [World.setCell,Array.getElem?_modify,hb]
theorem ab {w:World} {b:Nat} {C:Array Value} {t:TypeId} {fr:Nat × Nat} (hb:w.heap[b]?=some (.cells C t fr)) (i:Nat) {v:Value} (hv:C[i]?=some v):w.cell? ⟨b,i,none⟩=some v:=by
 simp [World.cell?,hb,hv]
theorem bd {w:World} {b:Nat} {C:Array Value} {t:TypeId} (hb:w.heap[b]?=some (.cells C t (0,0))) (i:Nat):w.frozen? ⟨b,i,none⟩=false:=by
 simp [World.frozen?,hb]
theorem ax {w:World} {b r:Nat} {o:Obj} (h:w.heap[b]?=some o) (i:Nat) (v:Value) (hne:b≠r):(w.setCell ⟨r,i,none⟩ v).heap[b]?=some o:=by
 rw [<-h];simp [World.setCell,Array.getElem?_modify,Ne.symm hne]
theorem bq {B:Nat} {a w:World} {g:Nat} (h:Below B a w) (hg:B<=g) (i:Nat) (v:Value):Below B a (w.setCell ⟨g,i,none⟩ v):=h.setCell hg _
theorem cW {B:Nat} {a:World} {g:Nat} (hg:B<=g):∀(L:List Value) (o:Nat) (w:World),Below B a w->Below B a (w.setCells g o L)
 | [],o,w,h=>h
 | x::L,o,w,h=>cW hg L (o+1) _ (h.setCell hg _)
theorem cx (b:Nat):∀(L:List Value) (o:Nat) (w:World),(w.setCells b o L).heap.size=w.heap.size
 | [],o,w=>rfl
 | x::L,o,w=>by
  rw [World.setCells,cx b L (o+1)];simp
theorem hH (C V:Array Value) (h:V.size=C.size):fO C 0 V.toList=V:=by
 unfold fO;rw [List.take_zero,List.drop_of_length_le (by simp [h])];simp
theorem cy {P:Program} {w:World} {b:Nat} {C:Array Value} {t:TypeId} {fr:Nat × Nat} (hb:w.heap[b]?=some (.cells C t fr)) {T:TypeId} {d:TypeDesc} (hu:P.underlying T=some d) (hd:d.isRow=true) (hi:(P.info? T).map (·.size)=some C.size):
 (Instr.loadAt T (.pointer (some ⟨b,0,none⟩))).run P w=.ok (.agg C) w:=by
 have:=bM (P:=P) hb hu hd (o:=0) C.toList hi (by rw [List.drop_zero,List.take_of_length_le (by simp)]) (by simp);simpa using this
theorem fP {P:Program} {w:World} {b:Nat} {C:Array Value} {t:TypeId} {fr:Nat × Nat} (hb:w.heap[b]?=some (.cells C t fr)) {T:TypeId} {d:TypeDesc} (hu:P.underlying T=some d) (hd:d.isRow=true) (hi:(P.info? T).map (·.size)=some C.size):
 (loadVar T ⟨b,0,none⟩).run P w=.ok (.agg C) w:=by
 have:=fo (P:=P) hb hu hd (o:=0) C.toList hi (by rw [List.drop_zero,List.take_of_length_le (by simp)]) (by simp);simpa using this
theorem fZ {P:Program} {w:World} {b:Nat} {C V:Array Value} {t:TypeId} (hb:w.heap[b]?=some (.cells C t (0,0))) {T:TypeId} (hi:(P.info? T).map (·.size)=some V.size) (hs:V.size=C.size) (h1:V.all (·.oneCell')=true):
 (Instr.storeAt T (.pointer (some ⟨b,0,none⟩)) (.agg V)).run P w=.ok () (w.setCells b 0 V.toList):=
 en hb hi (by omega) h1
theorem fp {w:World} {b:Nat} {C V:Array Value} {t:TypeId} {fr:Nat × Nat} (hb:w.heap[b]?=some (.cells C t fr)) (hs:V.size=C.size):(w.setCells b 0 V.toList).heap[b]?=some (.cells V t fr):=by
 rw [bR b V.toList 0 w C t fr hb (by simp;omega),hH C V hs]
theorem cg (w:World) (A:Array Value) (T:TypeId):(w.alloc (.cells A T)).heap[w.heap.size]?=some (.cells A T (0,0))∧(w.alloc (.cells A T)).heap.size=w.heap.size+1∧Below w.heap.size w (w.alloc (.cells A T)):=
 ⟨heap_alloc_new w _,by simp,(Below.refl _ _).alloc (Nat.le_refl _) _⟩
theorem hI (w:World) (A B:Array Value) (T U:TypeId):((w.alloc (.cells A T)).alloc (.cells B U)).heap[w.heap.size]?=some (.cells A T (0,0))∧((w.alloc (.cells A T)).alloc (.cells B U)).heap[w.heap.size+1]?=some (.cells B U (0,0))∧((w.alloc (.cells A T)).alloc (.cells B U)).heap.size=w.heap.size+2∧Below w.heap.size w ((w.alloc (.cells A T)).alloc (.cells B U)):=by
 refine ⟨?_,?_,by simp,((Below.refl _ _).alloc (Nat.le_refl _) _).alloc (by simp) _⟩
 ·rw [heap_alloc_old _ _ (by simp)];exact heap_alloc_new w _
 ·have:=heap_alloc_new (w.alloc (.cells A T)) (.cells B U);simp only [World.size_alloc] at this;exact this
theorem iN (w:World) (A B C:Array Value) (T U S:TypeId):(((w.alloc (.cells A T)).alloc (.cells B U)).alloc (.cells C S)).heap[w.heap.size]?=some (.cells A T (0,0))∧(((w.alloc (.cells A T)).alloc (.cells B U)).alloc (.cells C S)).heap[w.heap.size+1]?=some (.cells B U (0,0))∧(((w.alloc (.cells A T)).alloc (.cells B U)).alloc (.cells C S)).heap[w.heap.size+2]?=some (.cells C S (0,0))∧
 (((w.alloc (.cells A T)).alloc (.cells B U)).alloc (.cells C S)).heap.size=w.heap.size+3∧Below w.heap.size w (((w.alloc (.cells A T)).alloc (.cells B U)).alloc (.cells C S)):=by
 obtain ⟨h1,h2,h3,h4⟩:=hI w A B T U;obtain ⟨k1,k2,k3⟩:=cg ((w.alloc (.cells A T)).alloc (.cells B U)) C S;refine ⟨bU h1 k3 (by omega),bU h2 k3 (by omega),by rw [h3] at k1;exact k1,by omega,Below.step h4 k3 (Nat.le_refl _)⟩
theorem ip {P:Program} {fn:Func} {R:Ending->World->Prop} {a:Act} {w:World} {s:Tmp} {T:TypeId} {b:Nat} {V:Value} (hr:fn.results=#[ResultVar.cell s T]) (hs:a.tmps[s]?=some (.pointer (some ⟨b,0,none⟩))) (hl:(loadVar T ⟨b,0,none⟩).run P w=.ok V w) (hd:a.defers=[]) (hR:R (.returned V) w):bodyPost P fn R .ret a w:=by
 refine bodyPost_ret (v:=V) ?_ hd hR;simp [results,hr,hs,asAddr,hl]
theorem dN {e T:TypeId} {size base n pb:Nat} {w:World} {s:Value} {cs:List Value} {cur:Array Value} {q:Nat × Nat} (h:w.ownsRow base e size s n cs) (hp:w.heap[pb]?=some (.cells cur T q)) (hT:T≠e):s.ownBlock≠some pb:=by
 rcases h.2 with ⟨h1,_⟩ | ⟨g,cap,cur',h1,_,h3,_⟩
 ·rw [h1];simp [Value.ownBlock]
 ·rw [h1];simp only [Value.ownBlock];intro he;have:g=pb:=Option.some.inj he;subst this;rw [h3] at hp;cases hp;exact hT rfl
theorem cq {e T:TypeId} {size base n pb:Nat} {w w':World} {s:Value} {cs:List Value} {cur:Array Value} {q:Nat × Nat} (h:w.ownsRow base e size s n cs) (hp:w.heap[pb]?=some (.cells cur T q)) (hT:T≠e) (hg:w.grownBy w' (some pb)):w'.ownsRow base e size s n cs:=
 h.kept hg (.inr (dN h hp hT))
theorem eo {P:Program} {a:Act} {d:Option Tmp} {T ty:TypeId} {x:Operand} {pos:String} {af:Array Edge} {g:Option (Nat × Bool)} {w:World} {b o:Nat} {V:Value} (hx:a.eval x=.pointer (some ⟨b,o,none⟩)) (hl:(Instr.loadAt T (.pointer (some ⟨b,o,none⟩))).run P w=.ok V w):
 (execOp a.eval { dst:=d,op:=.load T x,type:=ty,pos:=pos,after:=af,guard:=g }).run P w=.ok (.value V) w:=by
 unfold execOp;simp only [hx,Sem.run_bind,hl,Result.andThen_ok,Sem.run_pure]
structure PtrM where
 am:Option Addr
 cm:Nat
 ar:Option Addr
 cr:Nat
 a1:Option Addr
 c1:Nat
 a2:Option Addr
 c2:Nat
 a3:Option Addr
 c3:Nat
def kA (p:PtrM) (k:KM):Array Value:=#[.int .i64 k.i.sets,.int .i64 k.i.ways,.slice p.a1 k.i.es.length p.c1,.int .i64 k.d.sets,.int .i64 k.d.ways,.slice p.a2 k.d.es.length p.c2,.int .i64 k.p.sets,.int .i64 k.p.ways,.slice p.a3 k.p.es.length p.c3]
def ae (p:PtrM) (h:HartM):Array Value:=#[.slice p.am h.mem.length p.cm,.slice p.ar h.regs.length p.cr,.int .u64 h.pc,.int .i64 h.mode,.bool h.sum,.bool h.mxr,.int .u64 h.satp,.int .u64 h.tvec,.int .u64 h.epc,.int .i64 h.emode,.int .i64 h.cause,.int .u64 h.tval,
 .int .i64 h.k.i.sets,.int .i64 h.k.i.ways,.slice p.a1 h.k.i.es.length p.c1,.int .i64 h.k.d.sets,.int .i64 h.k.d.ways,.slice p.a2 h.k.d.es.length p.c2,.int .i64 h.k.p.sets,.int .i64 h.k.p.ways,.slice p.a3 h.k.p.es.length p.c3]
def gF:List (Int × Int)->List Value
 | []=>[]
 | l::ls=>.int .i64 l.1::.int .u64 l.2::gF ls
def bv (zs:List Int):List Value:=zs.map (Value.int .u64)
def fQ (p:PtrM):List (Option Addr):=[p.am,p.ar,p.a1,p.a2,p.a3]
def From (B:Nat) (p p':PtrM):Prop:=∀q,some q∈fQ p'->some q∈fQ p∨B<=q.block
def FromL (B:Nat) (al al':Option Addr):Prop:=∀q,al'=some q->al=some q∨B<=q.block
structure HartIn (w:World) (p:PtrM) (h:HartM):Prop where
 mem:Byt w p.am h.mem.length h.mem
 memc:h.mem.length<=p.cm∧p.cm<=9223372036854775807
 regs:RowC w p.ar h.regs.length 1 (bv h.regs)
 regc:h.regs.length<=p.cr∧p.cr<=9223372036854775807
 rega:(p.ar=none->h.regs.length=0∧p.cr=0)∧∀q,p.ar=some q->q.spot=none
 ks:KAt w (.agg (kA p h.k)) h.k
 low:∀q,some q∈fQ p->q.block<w.heap.size
structure RunIn (w:World) (p:PtrM) (al:Option Addr) (cl:Nat) (r:RunM):Prop where
 h:HartIn w p r.h
 looks:RowC w al r.looks.length 2 (gF r.looks)
 lookc:r.looks.length<=cl∧cl<=9223372036854775807
 looka:(al=none->r.looks.length=0∧cl=0)∧∀q,al=some q->q.spot=none
 lookl:r.looks.length<=8
 low:∀q,al=some q->q.block<w.heap.size
theorem HartIn.keep {w w':World} {p:PtrM} {h:HartM} (k:HartIn w p h) (hb:Below w.heap.size w w'):HartIn w' p h:=
 ⟨k.mem.keep hb,k.memc,k.regs.keep hb,k.regc,k.rega,k.ks.keep hb,fun q hq=>Nat.lt_of_lt_of_le (k.low q hq) hb.size⟩
theorem RunIn.keep {w w':World} {p:PtrM} {al:Option Addr} {cl:Nat} {r:RunM} (k:RunIn w p al cl r) (hb:Below w.heap.size w w'):RunIn w' p al cl r:=
 ⟨k.h.keep hb,k.looks.keep hb,k.lookc,k.looka,k.lookl,fun q hq=>Nat.lt_of_lt_of_le (k.low q hq) hb.size⟩
abbrev cD:Array Value:=#[.slice none 0 0,.slice none 0 0,.int .u64 0,.int .i64 0,.bool false,.bool false,.int .u64 0,.int .u64 0,.int .u64 0,.int .i64 0,.int .i64 0,.int .u64 0,.int .i64 0,.int .i64 0,.slice none 0 0,.int .i64 0,.int .i64 0,.slice none 0 0,.int .i64 0,.int .i64 0,.slice none 0 0]
theorem eK (p:PtrM) (h:HartM):(ae p h).all (·.oneCell')=true:=by
 simp [ae,Value.oneCell']
theorem ga (p:PtrM) (h:HartM):(ae p h).size=21:=rfl
theorem du:cD.size=21:=rfl
theorem dX:(Try.prog.info? 63).map (·.size)=some 21:=by kernel_rfl
theorem cT (satp:Int) (w:World) (h0:0<=satp) (h1:satp<=18446744073709551615):
 Calls Try.prog 53 #[.int .u64 satp] w fun e w'=>e=.returned (.bool (aY satp))∧Below w.heap.size w w':=by
 have HS:Hid (aY satp=(satp/1152921504606846976%16 == 0 || satp/1152921504606846976%16 == 8)):=rfl;have HB:Hid (∀u,Calls Try.prog 86 #[.int .u64 satp,.int .i64 60,.int .i64 63] u fun e w'=>e=.returned (.int .u64 (satp/1152921504606846976%16))∧∃n,w'=u.drewN n):=fun u=>aD satp 60 63 _ _ u h0 h1 (by omega) (by omega) (by omega) (by omega) (by decide) (by decide);generalize aY satp=q at *;generalize satp/1152921504606846976%16=x at *;by_cases hx:x=0
 ·subst hx;have hq:q=true:=by rw [HS.out];rfl
  subst hq;go_enter Try.func53,Try.ntmps53;go_wp2_with fail;refine (HB.out w).mono ?_;rintro e v1 ⟨rfl,n,rfl⟩;go_wp2_with fail;go_ret;exact ⟨rfl,below_drewN (Below.refl _ _) n⟩
 ·have hx':(x == 0)=false:=by simpa using hx
  go_enter Try.func53,Try.ntmps53;go_wp2_with fail;refine (HB.out w).mono ?_;rintro e v1 ⟨rfl,n,rfl⟩;go_wp2_with fail;refine (HB.out _).mono ?_;rintro e v2 ⟨rfl,m,rfl⟩;go_wp2_with fail;go_ret;exact ⟨ag (by rw [HS.out,hx'];simp),below_drewN (Below.refl _ _) (n+m)⟩
theorem Try.infoU:(Try.prog.info? 33).map (fun i=>(i.zero,i.size,i.bytes))=some (some (.int .u64 0),1,8):=by kernel_rfl
end Go.Proofs.Ytfgogedgolgnaaa
