import Derived.Test.YtfgogedgolgnaaaEk02
import Derived.StillTailTactics
namespace Go.Proofs.Ytfgogedgolgnaaa
open Go.RowKit
set_option linter.unusedVariables false
set_option maxHeartbeats 6400000
set_option maxRecDepth 20000
section
attribute [local go_sem ↓] Go.wp_at_zero Go.wp_at_succ
theorem eD (b off:Nat) (cap:Nat) (ways:Int) (es:List EntM) (n:Nat) (p:Bool) (w:World) (hr:RowC w (some ⟨b,off,none⟩) n 6 (ad es)) (he:∀e∈es,aO e) (hl:n<=1048576) (hN:es.length=n)
 (hw:1<=ways) (hw':ways<=4) (hn:(n:Int)=8*ways):
  Calls Try.prog 9 #[.agg #[.int .i64 8,.int .i64 ways,.slice (some ⟨b,off,none⟩) n cap],.bool p] w fun e w'=>e=.returned (.bool (aP ⟨8,ways,es⟩ p 0 es))∧Below w.heap.size w w':=by
 have a1:=aY w #[.int .i64 8,.int .i64 ways,.slice (some ⟨b,off,none⟩) n cap] 29;have hn':((n:Int) != 8*ways)=false:=by rw [bne_eq_false_iff_eq];omega
 have HN:Hid (es.length=n):=hN;have HR:Hid (RowC w (some ⟨b,off,none⟩) n 6 (ad es)):=hr;have HE:Hid (∀e∈es,aO e):=he;obtain ⟨R,hR⟩:∃R,aP ⟨8,ways,es⟩ p 0 es=R:=⟨_,rfl⟩;rw [hR];have HP:Hid (aP ⟨8,ways,es⟩ p 0 es=R):=hR;clear hN hr he hn hR;go_enter Try.func9,Try.ntmps9;go_wp2_with fail;generalize w.alloc (Obj.cells #[.int .i64 8,.int .i64 ways,.slice (some ⟨b,off,none⟩) n cap] 29)=v1 at a1 |-;obtain ⟨l1,c1,n1⟩:=a1;have c10:v1.cell? ⟨w.heap.size,0,none⟩=some (.int .i64 8):=c1 0;have c11:v1.cell? ⟨w.heap.size,1,none⟩=some (.int .i64 ways):=c1 1;have c12:v1.cell? ⟨w.heap.size,2,none⟩=some (.slice (some ⟨b,off,none⟩) n cap):=c1 2;clear c1;go_loopw [5] (fun i wr=>∃k:Nat,k<=n∧i=.int .i64 k∧(∀j x,j<k->es[j]?=some x->al ⟨8,ways,es⟩ p j x=true)∧Below v1.heap.size v1 wr) (fun i _=>n-(intOf i).toNat)
 case atStart=>exact ⟨0,Nat.zero_le _,rfl,fun j x hj=>absurd hj (by omega),Below.refl _ _⟩
 case round=>
  obtain ⟨k,hk,rfl,hall,hb⟩:=hrel;have HA:Hid (∀j x,j<k->es[j]?=some x->al ⟨8,ways,es⟩ p j x=true):=hall;clear hall;have d10:=Below.cell2 hb c10 l1;have d11:=Below.cell2 hb c11 l1;have d12:=Below.cell2 hb c12 l1;have l2:w.heap.size<wr.heap.size:=Nat.lt_of_lt_of_le l1 hb.size;have n1r:=Below.step n1 hb (Nat.le_refl _);by_cases hlt:k<n
  ·have hx:∃x:EntM,es[k]?=some x:=⟨_,List.getElem?_eq_getElem (by have:=HN.out;omega)⟩;obtain ⟨⟨v,lv,tg,asd,gl,pt⟩,hx⟩:=hx;have hok:aO ⟨v,lv,tg,asd,gl,pt⟩:=HE.out _ (List.mem_of_getElem? hx);have HRr:=RowC.keep HR.out n1r;have g0:wr.cell? ⟨b,off+k*6,none⟩=some (.bool v):=av HRr HN.out k _ hx 0 _ (by omega) rfl;have g1:wr.cell? ⟨b,off+k*6+1,none⟩=some (.int .i64 lv):=av HRr HN.out k _ hx 1 _ (by omega) rfl;have g2:wr.cell? ⟨b,off+k*6+2,none⟩=some (.int .u64 tg):=av HRr HN.out k _ hx 2 _ (by omega) rfl;have g3:wr.cell? ⟨b,off+k*6+3,none⟩=some (.int .u64 asd):=av HRr HN.out k _ hx 3 _ (by omega) rfl;have g4:wr.cell? ⟨b,off+k*6+4,none⟩=some (.bool gl):=av HRr HN.out k _ hx 4 _ (by omega) rfl;have g5:wr.cell? ⟨b,off+k*6+5,none⟩=some (.int .u64 pt):=av HRr HN.out k _ hx 5 _ (by omega) rfl;have HX:Hid (es[k]?=some ⟨v,lv,tg,asd,gl,pt⟩):=hx;have HPf:Hid (al ⟨8,ways,es⟩ p k ⟨v,lv,tg,asd,gl,pt⟩=false->false=R):=fun h=>by rw [<-HP.out];exact (bb _ p es 0 k _ hx (by rw [Nat.zero_add];exact h)).symm
   have HPt:Hid (al ⟨8,ways,es⟩ p k ⟨v,lv,tg,asd,gl,pt⟩=true->∀j x,j<k+1->es[j]?=some x->al ⟨8,ways,es⟩ p j x=true):=fun h j x hj hx'=>by
    by_cases e:j=k
    ·subst e;rw [hx] at hx';cases hx';exact h
    ·exact HA.out j x (by omega) hx'
   clear hx HRr;have a2:=aY wr #[.bool v,.int .i64 lv,.int .u64 tg,.int .u64 asd,.bool gl,.int .u64 pt] 42;go_wp2_with fail;generalize wr.alloc (Obj.cells #[.bool v,.int .i64 lv,.int .u64 tg,.int .u64 asd,.bool gl,.int .u64 pt] 42)=v2 at a2 |-;obtain ⟨l3,c2,n2⟩:=a2;have k0:=aq (c2 0) l3;have k1:=aq (c2 1) l3;have k2:=aq (c2 2) l3;have k3:=aq (c2 3) l3;have k4:=aq (c2 4) l3;have k5:=aq (c2 5) l3;have j0:=aq (Below.cell2 n2 d10 l2) (Nat.lt_trans l2 l3);have j1:=aq (Below.cell2 n2 d11 l2) (Nat.lt_trans l2 l3);have hb2:=Below.step hb n2 (Nat.le_refl _);have n12:=Below.step n1 hb2 (Nat.le_refl _);have ne:=ci v2;clear c2 d10 d11 d12 hb n2 g0 g1 g2 g3 g4 g5 c10 c11 c12 n1r;obtain ⟨gd,hgd⟩:∃gd,ak ⟨v,lv,tg,asd,gl,pt⟩ p=gd:=⟨_,rfl⟩;have HGd:Hid (∀u:Lies v2,Calls Try.prog 30 #[bQ ⟨v,lv,tg,asd,gl,pt⟩,.bool p] u.w fun e w'=>e=.returned (.bool gd)∧Below u.w.heap.size u.w w'):=fun u=>by
    have:=bj ⟨v,lv,tg,asd,gl,pt⟩ p u.w hok;rw [hgd] at this;exact this
   have HGv:Hid (ak ⟨v,lv,tg,asd,gl,pt⟩ p=gd):=hgd;clear hgd;cases v
   ·have hgf:gd=false:=by rw [<-HGv.out];simp [ak]
    subst hgf;by_cases q1n:¬(lv=0)
    ·have q1:(lv == 0)=false:=by simpa using q1n
     have HQ:Hid ((lv == 0)=false):=q1;clear q1n;refine ai (by kernel_rfl) (by kernel_rfl) ?_;repeat (go_big_quiet_step ((go_at_call 30;exact ao _ (HGd.out _))))
     refine wpQuiet_nil ?_;rintro _ ⟨u,rfl⟩;go_wp2_with fail;go_ret;exact ⟨aj (HPf.out (by simp [al,HGv.out,HQ.out])),Below.step n12 u.h (Nat.le_refl _)⟩
    have q1z:lv=0:=Decidable.not_not.1 q1n;subst q1z;clear q1n;by_cases q2n:¬(tg=0)
    ·have q2:(tg == 0)=false:=by simpa using q2n
     have HQ:Hid ((tg == 0)=false):=q2;clear q2n;refine ai (by kernel_rfl) (by kernel_rfl) ?_;repeat (go_big_quiet_step ((go_at_call 30;exact ao _ (HGd.out _))))
     refine wpQuiet_nil ?_;rintro _ ⟨u,rfl⟩;go_wp2_with fail;go_ret;exact ⟨aj (HPf.out (by simp [al,HGv.out,HQ.out])),Below.step n12 u.h (Nat.le_refl _)⟩
    have q2z:tg=0:=Decidable.not_not.1 q2n;subst q2z;clear q2n;by_cases q3n:¬(asd=0)
    ·have q3:(asd == 0)=false:=by simpa using q3n
     have HQ:Hid ((asd == 0)=false):=q3;clear q3n;refine ai (by kernel_rfl) (by kernel_rfl) ?_;repeat (go_big_quiet_step ((go_at_call 30;exact ao _ (HGd.out _))))
     refine wpQuiet_nil ?_;rintro _ ⟨u,rfl⟩;go_wp2_with fail;go_ret;exact ⟨aj (HPf.out (by simp [al,HGv.out,HQ.out])),Below.step n12 u.h (Nat.le_refl _)⟩
    have q3z:asd=0:=Decidable.not_not.1 q3n;subst q3z;clear q3n;cases hgl:gl
    ·subst hgl;by_cases q5n:¬(pt=0)
     ·have q5:(pt == 0)=false:=by simpa using q5n
      have HQ:Hid ((pt == 0)=false):=q5;clear q5n;refine ai (by kernel_rfl) (by kernel_rfl) ?_;repeat (go_big_quiet_step ((go_at_call 30;exact ao _ (HGd.out _))))
      refine wpQuiet_nil ?_;rintro _ ⟨u,rfl⟩;go_wp2_with fail;go_ret;exact ⟨aj (HPf.out (by simp [al,HGv.out,HQ.out])),Below.step n12 u.h (Nat.le_refl _)⟩
     have q5z:pt=0:=Decidable.not_not.1 q5n;subst q5z;clear q5n;refine ai (by kernel_rfl) (by kernel_rfl) ?_;repeat (go_big_quiet_step ((go_at_call 30;exact ao _ (HGd.out _))))
     refine wpQuiet_nil ?_;rintro _ ⟨u,rfl⟩;go_wp2_with fail;go_roundw
     case rel=>exact ⟨k+1,by omega,by go_num,HPt.out (by simp [al]),Below.step hb2 u.h (Nat.le_refl _)⟩
     case measure=>simp [intOf];omega
    ·subst hgl;refine ai (by kernel_rfl) (by kernel_rfl) ?_;repeat (go_big_quiet_step ((go_at_call 30;exact ao _ (HGd.out _))))
     refine wpQuiet_nil ?_;rintro _ ⟨u,rfl⟩;go_wp2_with fail;go_ret;exact ⟨aj (HPf.out (by simp [al,HGv.out])),Below.step n12 u.h (Nat.le_refl _)⟩
   ·cases gd
    ·
     refine ai (by kernel_rfl) (by kernel_rfl) ?_;repeat (go_big_quiet_step ((go_at_call 30;exact ao _ (HGd.out _))))
     refine wpQuiet_nil ?_;rintro _ ⟨u,rfl⟩;go_wp2_with fail;go_ret;exact ⟨aj (HPf.out (by simp [al,HGv.out])),Below.step n12 u.h (Nat.le_refl _)⟩
    ·have htg:tg<512:=cA HGv.out;have htg0:0<=tg:=hok.2.1.1;have hd0:0<=(k:Int)/ways:=Int.ediv_nonneg (by omega) (by omega);have hd1:(k:Int)/ways<=1048576:=Int.le_trans (Int.ediv_le_self _ (by omega)) (by omega);by_cases hq:tg%8=(k:Int)/ways
     ·have hq':(tg%8 != (k:Int)/ways)=false:=by rw [bne_eq_false_iff_eq];exact hq
      have HQ:Hid (tg%8=(k:Int)/ways):=hq;clear hq;refine ai (by kernel_rfl) (by kernel_rfl) ?_;repeat (go_big_quiet_step ((go_at_call 30;exact ao _ (HGd.out _))))
      refine wpQuiet_nil ?_;rintro _ ⟨u,rfl⟩;go_wp2_with fail;go_roundw
      case rel=>exact ⟨k+1,by omega,by go_num,HPt.out (by simp [al,HGv.out,HQ.out]),Below.step hb2 u.h (Nat.le_refl _)⟩
      case measure=>simp [intOf];omega
     ·have hq':(tg%8 != (k:Int)/ways)=true:=by rw [bne_iff_ne];exact hq
      have HQ:Hid (¬tg%8=(k:Int)/ways):=hq;clear hq;refine ai (by kernel_rfl) (by kernel_rfl) ?_;repeat (go_big_quiet_step ((go_at_call 30;exact ao _ (HGd.out _))))
      refine wpQuiet_nil ?_;rintro _ ⟨u,rfl⟩;go_wp2_with fail;go_ret;exact ⟨aj (HPf.out (by simp [al,HQ.out])),Below.step n12 u.h (Nat.le_refl _)⟩
  ·have hkn:k=n:=by omega
   subst hkn;have HT:Hid (true=R):=by
    show true=R;rw [<-HP.out];exact (bh _ p es 0 (fun j x hx=>by rw [Nat.zero_add];exact HA.out j x (by have h1:=(List.getElem?_eq_some_iff.1 hx).1;have h2:=HN.out;omega) hx)).symm
   clear c10 c11 c12 n1 d10 d11;go_wp2_with fail;go_ret;exact ⟨aj HT.out,n1r⟩
end
theorem dY (a:Option Addr) (n cap:Nat) (sets ways:Int) (p:Bool) (w:World) (hl:n<=1048576) (hs: -9223372036854775808<=sets∧sets<=9223372036854775807) (hw: -9223372036854775808<=ways∧ways<=9223372036854775807)
 (h:¬((sets=1∨sets=2∨sets=4∨sets=8)∧1<=ways∧ways<=4∧(n:Int)=sets*ways)):
 Calls Try.prog 9 #[.agg #[.int .i64 sets,.int .i64 ways,.slice a n cap],.bool p] w fun e w'=>e=.returned (.bool false)∧Below w.heap.size w w':=by
 by_cases h1:sets=1∨sets=2∨sets=4∨sets=8
 ·by_cases h2:ways<1
  ·rcases h1 with rfl | rfl | rfl | rfl;all_goals
    go_enter Try.func9,Try.ntmps9;go_wp2_with fail;go_ret;exact ⟨rfl,(Below.refl _ _).alloc (Nat.le_refl _) _⟩
  by_cases h3:4<ways
  ·rcases h1 with rfl | rfl | rfl | rfl;all_goals
    go_enter Try.func9,Try.ntmps9;go_wp2_with fail;go_ret;exact ⟨rfl,(Below.refl _ _).alloc (Nat.le_refl _) _⟩
  rcases h1 with rfl | rfl | rfl | rfl
  ·have h4:((n:Int) != ways)=true:=by rw [bne_iff_ne];omega
   clear h;go_enter Try.func9,Try.ntmps9;go_wp2_with fail;go_ret;exact ⟨rfl,(Below.refl _ _).alloc (Nat.le_refl _) _⟩
  ·have h4:((n:Int) != 2*ways)=true:=by rw [bne_iff_ne];omega
   clear h;go_enter Try.func9,Try.ntmps9;go_wp2_with fail;go_ret;exact ⟨rfl,(Below.refl _ _).alloc (Nat.le_refl _) _⟩
  ·have h4:((n:Int) != 4*ways)=true:=by rw [bne_iff_ne];omega
   clear h;go_enter Try.func9,Try.ntmps9;go_wp2_with fail;go_ret;exact ⟨rfl,(Below.refl _ _).alloc (Nat.le_refl _) _⟩
  ·have h4:((n:Int) != 8*ways)=true:=by rw [bne_iff_ne];omega
   clear h;go_enter Try.func9,Try.ntmps9;go_wp2_with fail;go_ret;exact ⟨rfl,(Below.refl _ _).alloc (Nat.le_refl _) _⟩
 ·have q1:(sets != 1)=true:=by rw [bne_iff_ne];omega
  have q2:(sets != 2)=true:=by rw [bne_iff_ne];omega
  have q4:(sets != 4)=true:=by rw [bne_iff_ne];omega
  have q8:(sets != 8)=true:=by rw [bne_iff_ne];omega
  clear h h1;go_enter Try.func9,Try.ntmps9;go_wp2_with fail;go_ret;exact ⟨rfl,(Below.refl _ _).alloc (Nat.le_refl _) _⟩
theorem bF (v:Value) (t:TlbM) (p:Bool) (w:World) (h:TlbAt w v t):
 Calls Try.prog 9 #[v,.bool p] w fun e w'=>e=.returned (.bool (an t p))∧Below w.heap.size w w':=by
 obtain ⟨a,cap,rfl,hr,he,hs,hw,hl,hlc,hcm,hnil,hsp⟩:=h;obtain ⟨sets,ways,es⟩:=t;simp only at hr he hs hw hl hlc hnil |-;by_cases hsh:(sets=1∨sets=2∨sets=4∨sets=8)∧1<=ways∧ways<=4∧(es.length:Int)=sets*ways
 ·have hv:an ⟨sets,ways,es⟩ p=aP ⟨sets,ways,es⟩ p 0 es:=by simp only [an,cz];rw [decide_eq_true hsh,Bool.true_and]
  rw [hv];obtain ⟨h1,h2,h3,h4⟩:=hsh;obtain ⟨b,off,rfl⟩:∃b off,a=some ⟨b,off,none⟩:=by
   rcases hr.2 with h0 | ⟨b,off,rfl,_,_⟩
   ·rw [h0] at h4;rcases h1 with rfl | rfl | rfl | rfl <;> simp at h4 <;> omega
   ·exact ⟨b,off,rfl⟩
  rcases h1 with rfl | rfl | rfl | rfl
  ·exact eF b off cap ways es es.length p w hr he hl rfl h2 h3 h4
  ·exact eo b off cap ways es es.length p w hr he hl rfl h2 h3 h4
  ·exact eu b off cap ways es es.length p w hr he hl rfl h2 h3 h4
  ·exact eD b off cap ways es es.length p w hr he hl rfl h2 h3 h4
 ·have hv:an ⟨sets,ways,es⟩ p=false:=by simp only [an,cz];rw [decide_eq_false hsh,Bool.false_and]
  rw [hv];exact dY a es.length cap sets ways p w hl hs hw hsh
section
attribute [local go_sem ↓] Go.wp_at_zero Go.wp_at_succ
theorem TlbAt.keep {w w':World} {v:Value} {t:TlbM} (h:TlbAt w v t) (hb:Below w.heap.size w w'):TlbAt w' v t:=by
 obtain ⟨a,cap,rfl,hr,r⟩:=h;exact ⟨a,cap,rfl,hr.keep hb,r⟩
def aT (t:TlbM):Bool:=an t true || an t false
def cj (x:EntM) (va asid:Int):Bool:=x.valid && (x.tag == bC va x.level) && (x.glob || x.asid == asid)
theorem cQ (v:Value) (t:TlbM) (w:World) (h:TlbAt w v t):
 Calls Try.prog 35 #[v] w fun e w'=>e=.returned (.bool (aT t))∧Below w.heap.size w w':=by
 have HT:Hid (TlbAt w v t):=h;obtain ⟨a,cap,rfl,_⟩:=h;have a1:=aY w #[.int .i64 t.sets,.int .i64 t.ways,.slice a t.es.length cap] 29;unfold aT;obtain ⟨p,hp⟩:∃p,an t true=p:=⟨_,rfl⟩;obtain ⟨q,hq⟩:∃q,an t false=q:=⟨_,rfl⟩;rw [hp,hq];have HP:Hid (an t true=p):=hp;have HQ:Hid (an t false=q):=hq;clear hp hq;go_enter Try.func35,Try.ntmps35;go_wp2_with fail;generalize w.alloc (Obj.cells #[.int .i64 t.sets,.int .i64 t.ways,.slice a t.es.length cap] 29)=v1 at a1 |-;obtain ⟨l1,c1,n1⟩:=a1;have c10:v1.cell? ⟨w.heap.size,0,none⟩=some (.int .i64 t.sets):=c1 0;have c11:v1.cell? ⟨w.heap.size,1,none⟩=some (.int .i64 t.ways):=c1 1;have c12:v1.cell? ⟨w.heap.size,2,none⟩=some (.slice a t.es.length cap):=c1 2;refine (bF _ t true v1 (HT.out.keep n1)).mono ?_;rw [HP.out];rintro e v2 ⟨rfl,n2⟩;have d10:=Below.cell2 n2 c10 l1;have d11:=Below.cell2 n2 c11 l1;have d12:=Below.cell2 n2 c12 l1;have n12:=Below.step n1 n2 (Nat.le_refl _);clear c1 c10 c11 c12 n1 n2;cases p
 ·go_wp2_with fail;refine (bF _ t false v2 (HT.out.keep n12)).mono ?_;rw [HQ.out];rintro e v3 ⟨rfl,n3⟩;have n13:=Below.step n12 n3 (Nat.le_refl _);clear d10 d11 d12 n3;go_wp2_with fail;go_ret;exact ⟨aj (by simp),n13⟩
 ·go_wp2_with fail;go_ret;exact ⟨aj (by simp),n12⟩
theorem eR (x:EntM) (va asid:Int) (w:World) (hx:aO x) (hlv:x.valid=true->0<=x.level∧x.level<=2) (hv0:0<=va) (hv1:va<=18446744073709551615):
 Calls Try.prog 36 #[bQ x,.int .u64 va,.int .u64 asid] w fun e w'=>e=.returned (.bool (cj x va asid))∧Below w.heap.size w w':=by
 obtain ⟨v,lv,tg,asd,gl,pt⟩:=x;unfold bQ cj;simp only at hlv |-;have n1:=(Below.refl w.heap.size w).alloc (Nat.le_refl _) (Obj.cells #[.bool v,.int .i64 lv,.int .u64 tg,.int .u64 asd,.bool gl,.int .u64 pt] 42);cases v
 ·go_enter Try.func36,Try.ntmps36;go_wp2_with fail;go_quiet (fail);go_wp2_with fail;go_ret;exact ⟨aj (by simp),below_drewN n1 nq⟩
 obtain ⟨hl0,hl2⟩:=hlv rfl;obtain ⟨tv,htv⟩:∃tv,bC va lv=tv:=⟨_,rfl⟩;rw [htv];have HC:Hid (∀w:World,Calls Try.prog 72 #[.int .u64 va,.int .i64 lv] w fun e w'=>e=.returned (.int .u64 tv)∧∃n,w'=w.drewN n):=fun w=>by
  have:=ev va lv w hv0 hv1 hl0 hl2;rw [htv] at this;exact this
 clear htv;cases ht:(tg == tv)
 ·go_enter Try.func36,Try.ntmps36;go_wp2_with fail;go_quiet ((go_at_call 72;exact Calls.quiet_of (HC.out _)));go_wp2_with fail;go_ret;exact ⟨aj (by simp),below_drewN n1 nq⟩
 ·cases gl
  ·go_enter Try.func36,Try.ntmps36;go_wp2_with fail;go_quiet ((go_at_call 72;exact Calls.quiet_of (HC.out _)));go_wp2_with fail;go_ret;exact ⟨aj (by simp),below_drewN n1 nq⟩
  ·go_enter Try.func36,Try.ntmps36;go_wp2_with fail;go_quiet ((go_at_call 72;exact Calls.quiet_of (HC.out _)));go_wp2_with fail;go_ret;exact ⟨aj (by simp),below_drewN n1 nq⟩
end
theorem ac {e:TypeId} {size:Nat} {w:World} {base g n cap:Nat} {cs:List Value} (h:w.ownsRow base e size (.slice (some ⟨g,0,none⟩) n cap) n cs) (j:Nat) (u:Value):
 (w.setCell ⟨g,j,none⟩ u).ownsRow base e size (.slice (some ⟨g,0,none⟩) n cap) n (cs.set j u):=by
 obtain ⟨h1,h2⟩:=h;refine ⟨by simpa using h1,?_⟩;rcases h2 with ⟨h2,_⟩ | ⟨g',cap',cur,h2,hb,hg,hc1,hc2,hc3,ht⟩
 ·cases h2
 ·cases h2;refine .inr ⟨g,cap,cur.setIfInBounds j u,rfl,hb,by simp [World.setCell,Array.getElem?_modify,hg],hc1,hc2,by simpa using hc3,?_⟩;subst ht;rw [Array.toList_setIfInBounds,List.take_set]
theorem ae {e:TypeId} {size:Nat} {w:World} {base g n cap:Nat} {cs:List Value} (h:w.ownsRow base e size (.slice (some ⟨g,0,none⟩) n cap) n cs) (j:Nat) (u:Value) (hj:cs[j]?=some u):w.cell? ⟨g,j,none⟩=some u:=
 (CurAt.of_own h).1.cell j u hj
theorem ag {e:TypeId} {size:Nat} {w:World} {base g n cap:Nat} {cs:List Value} (h:w.ownsRow base e size (.slice (some ⟨g,0,none⟩) n cap) n cs) (j:Nat):w.frozen? ⟨g,j,none⟩=false:=
 (CurAt.of_own h).1.free j
theorem br {a b c:World} {r:Option Nat} (h:a.grownBy b r) (k:Below b.heap.size b c):a.grownBy c r:=
 ⟨k.os.trans h.os,k.tape.trans h.tape,k.output.trans h.output,Nat.le_trans h.size k.size,fun i hi hn=>(k.block i (Nat.lt_of_lt_of_le hi h.size)).trans (h.block i hi hn)⟩
theorem ce {a b:World} {r g o:Nat} {x:Option Value} (h:a.grownBy b (some r)) (hc:a.cell? ⟨g,o,none⟩=x) (hg:g<a.heap.size) (hne:g≠r):b.cell? ⟨g,o,none⟩=x:=
 (World.cell?_of_block (h.block g hg (by simpa using hne))).trans hc
theorem ed {a b:World} {r n size:Nat} {q:Option Addr} {cs:List Value} (h:RowC a q n size cs) (hg:a.grownBy b (some r)) (hr:a.heap.size<=r∨∀x,q=some x->x.block≠r):RowC b q n size cs:=by
 obtain ⟨h1,h2⟩:=h;refine ⟨h1,?_⟩;rcases h2 with h2 | ⟨bk,off,rfl,hlt,hc⟩
 ·exact .inl h2
 ·refine .inr ⟨bk,off,rfl,Nat.lt_of_lt_of_le hlt hg.size,fun i u hu=>?_⟩;exact ce hg (hc i u hu) hlt (by
   rcases hr with hr | hr
   ·omega
   ·exact hr _ rfl)
section
attribute [local go_sem ↓] Go.wp_at_zero Go.wp_at_succ
def bn (va asid l:Int) (x:EntM):Bool:=x.level == l && cj x va asid
def aM (va asid l:Int):Nat->List EntM->Option (Nat × EntM)
 | _,[]=>none
 | i,e::r=>if bn va asid l e=true then some (i,e) else aM va asid l (i+1) r
def bG (l:Int):Option (Nat × EntM)->Option (Bool × Int × Int × Int)
 | none=>none
 | some (i,e)=>some (true,(i:Int),l,e.pte)
def bd (t:TlbM) (va asid:Int):Bool × Int × Int × Int:=
 if aT t=false then (false,0,0,0)
 else ((bG 0 (aM va asid 0 0 t.es)).or ((bG 1 (aM va asid 1 0 t.es)).or (bG 2 (aM va asid 2 0 t.es)))).getD (false,0,0,0)
theorem cL (va asid l:Int):∀(es:List EntM) (i:Nat),(∀(j:Nat) x,es[j]?=some x->bn va asid l x=false)->aM va asid l i es=none
 | [],i,h=>rfl
 | e::r,i,h=>by
  rw [aM,if_neg (by rw [h 0 e rfl];simp)];exact cL va asid l r (i+1) (fun j x hx=>h (j+1) x (by simpa using hx))
theorem cM (va asid l:Int):∀(es:List EntM) (i k:Nat) (x:EntM),es[k]?=some x->bn va asid l x=true->(∀j y,j<k->es[j]?=some y->bn va asid l y=false)->aM va asid l i es=some (i+k,x)
 | e::r,i,0,x,hx,hh,h=>by
  simp at hx;subst hx;rw [aM,if_pos hh];rfl
 | e::r,i,k+1,x,hx,hh,h=>by
  rw [aM,if_neg (by rw [h 0 e (by omega) rfl];simp),cM va asid l r (i+1) k x (by simpa using hx) hh (fun j y hj hy=>h (j+1) y (by omega) (by simpa using hy))];congr 2;omega
theorem cE (t:TlbM) (p:Bool):∀(es:List EntM) (i:Nat),aP t p i es=true->∀j x,es[j]?=some x->al t p (i+j) x=true
 | e::r,i,h,0,x,hx=>by
  simp at hx;subst hx;simp only [aP,Bool.and_eq_true] at h;exact h.1
 | e::r,i,h,j+1,x,hx=>by
  simp only [aP,Bool.and_eq_true] at h;have:=cE t p r (i+1) h.2 j x (by simpa using hx);rw [show i+(j+1)=i+1+j by omega];exact this
theorem da {t:TlbM} {p:Bool} {i:Nat} {x:EntM} (h:al t p i x=true) (hv:x.valid=true):0<=x.level∧x.level<=2:=by
 simp only [al,Bool.or_eq_true,Bool.and_eq_true] at h;rcases h with h | h
 ·rw [hv] at h;simp at h
 ·have:=h.1;simp only [ak,Bool.and_eq_true,decide_eq_true_eq] at this;exact ⟨this.1.1.1.1.1.2,this.1.1.1.1.2⟩
theorem bN {t:TlbM} (h:aT t=true) (j:Nat) (x:EntM) (hx:t.es[j]?=some x) (hv:x.valid=true):0<=x.level∧x.level<=2:=by
 simp only [aT,an,Bool.or_eq_true,Bool.and_eq_true] at h;rcases h with h | h
 ·exact da (cE t true t.es 0 h.2 j x hx) hv
 ·exact da (cE t false t.es 0 h.2 j x hx) hv
theorem dQ (t:TlbM) (va asid:Int) (l k:Nat) (x:EntM) (he:aT t=true) (hl:l<=2) (hp:∀l':Nat,l'<l->aM va asid l' 0 t.es=none) (hf:aM va asid l 0 t.es=some (k,x)):
 bd t va asid=(true,(k:Int),(l:Int),x.pte):=by
 unfold bd;rw [if_neg (by rw [he];simp)];rcases (show l=0∨l=1∨l=2 by omega) with rfl | rfl | rfl
 ·have hf':aM va asid 0 0 t.es=some (k,x):=hf;rw [hf'];rfl
 ·have h0:aM va asid 0 0 t.es=none:=hp 0 (by omega);have hf':aM va asid 1 0 t.es=some (k,x):=hf;rw [h0,hf'];rfl
 ·have h0:aM va asid 0 0 t.es=none:=hp 0 (by omega);have h1:aM va asid 1 0 t.es=none:=hp 1 (by omega);have hf':aM va asid 2 0 t.es=some (k,x):=hf;rw [h0,h1,hf'];rfl
theorem cS (t:TlbM) (va asid:Int) (he:aT t=true) (hp:∀l':Nat,l'<3->aM va asid l' 0 t.es=none):bd t va asid=(false,0,0,0):=by
 have h0:aM va asid 0 0 t.es=none:=hp 0 (by omega);have h1:aM va asid 1 0 t.es=none:=hp 1 (by omega);have h2:aM va asid 2 0 t.es=none:=hp 2 (by omega);unfold bd;rw [if_neg (by rw [he];simp),h0,h1,h2];rfl
theorem dm (v:Value) (t:TlbM) (va asid:Int) (w:World) (h:TlbAt w v t) (hv0:0<=va) (hv1:va<=18446744073709551615):
 Calls Try.prog 13 #[v,.int .u64 va,.int .u64 asid] w fun e w'=>
  e=.returned (.agg #[.bool (bd t va asid).1,.int .i64 (bd t va asid).2.1,.int .i64 (bd t va asid).2.2.1,.int .u64 (bd t va asid).2.2.2])∧Below w.heap.size w w':=by
 have HT:Hid (TlbAt w v t):=h;obtain ⟨a,cap,rfl,hr,he,hs,hw,hl,hlc,hcm,hnil,hsp⟩:=h;obtain ⟨⟨x1,x2,x3,x4⟩,hX⟩:∃X,bd t va asid=X:=⟨_,rfl⟩;rw [hX];simp only;have HX:Hid (bd t va asid=(x1,x2,x3,x4)):=hX;obtain ⟨eb,heb⟩:∃eb,aT t=eb:=⟨_,rfl⟩;have HEb:Hid (aT t=eb):=heb;obtain ⟨n,hn⟩:∃n,t.es.length=n:=⟨_,rfl⟩;have HN:Hid (t.es.length=n):=hn;rw [hn] at hr hl hlc hnil |-;have HR:Hid (RowC w a n 6 (ad t.es)):=hr;have HE:Hid (∀e∈t.es,aO e):=he;have n1:=((Below.refl w.heap.size w).alloc (Nat.le_refl _) (Obj.cells #[.int .i64 t.sets,.int .i64 t.ways,.slice a n cap] 29)).alloc (by simp) (Obj.cells #[.bool false,.int .i64 0,.int .i64 0,.int .u64 0] 35);have H1:Hid (((w.alloc (Obj.cells #[.int .i64 t.sets,.int .i64 t.ways,.slice a n cap] 29)).alloc (Obj.cells #[.bool false,.int .i64 0,.int .i64 0,.int .u64 0] 35)).heap[w.heap.size+1]?=some (.cells #[.bool false,.int .i64 0,.int .i64 0,.int .u64 0] 35 (0,0))):=by
  have:=heap_alloc_new (w.alloc (Obj.cells #[.int .i64 t.sets,.int .i64 t.ways,.slice a n cap] 29)) (Obj.cells #[.bool false,.int .i64 0,.int .i64 0,.int .u64 0] 35);simp only [World.size_alloc] at this;exact this
 have H2:Hid (((w.alloc (Obj.cells #[.int .i64 t.sets,.int .i64 t.ways,.slice a n cap] 29)).alloc (Obj.cells #[.bool false,.int .i64 0,.int .i64 0,.int .u64 0] 35)).cell? ⟨w.heap.size,2,none⟩=some (.slice a n cap)):=by
  show _=_;simp
 have l1:w.heap.size+1<((w.alloc (Obj.cells #[.int .i64 t.sets,.int .i64 t.ways,.slice a n cap] 29)).alloc (Obj.cells #[.bool false,.int .i64 0,.int .i64 0,.int .u64 0] 35)).heap.size:=by simp
 clear hX heb hn hr he hs hw hnil hsp;go_enter Try.func13,Try.ntmps13;go_wp2_with fail;generalize (w.alloc (Obj.cells #[.int .i64 t.sets,.int .i64 t.ways,.slice a n cap] 29)).alloc (Obj.cells #[.bool false,.int .i64 0,.int .i64 0,.int .u64 0] 35)=v1 at n1 H1 H2 l1 |-;have HTn:Hid (TlbAt w (.agg #[.int .i64 t.sets,.int .i64 t.ways,.slice a n cap]) t):=by have:=HT.out;rw [HN.out] at this;exact this
 refine (cQ _ t v1 (HTn.out.keep n1)).mono ?_;rw [HEb.out];rintro e v2 ⟨rfl,n2⟩;have n12:=Below.step n1 n2 (Nat.le_refl _);have K1:Hid (v2.heap[w.heap.size+1]?=some (.cells #[.bool false,.int .i64 0,.int .i64 0,.int .u64 0] 35 (0,0))):=aF H1.out n2 l1;have K2:v2.cell? ⟨w.heap.size,2,none⟩=some (.slice a n cap):=Below.cell2 n2 H2.out (by omega);have l2:w.heap.size+1<v2.heap.size:=Nat.lt_of_lt_of_le l1 n2.size;clear n1 n2 H1 H2 l1;cases eb
 ·obtain ⟨⟨d0,d1,d2,d3⟩,e0,e1,e2,e3⟩:=aG K1.out;have hz:(x1,x2,x3,x4)=(false,0,0,0):=by rw [<-HX.out];unfold bd;rw [if_pos HEb.out]
  cases hz;go_wp2_with fail;exact bodyPost_ret (v:=.agg #[.bool false,.int .i64 0,.int .i64 0,.int .u64 0]) (by simp [results,Try.results13,go_sem,d0,d1,d2,d3]) rfl ⟨rfl,fQ n12 (by omega) _ _ _ _⟩
 ·go_wp2_with fail;go_loopw [7] (fun lev wr=>∃l:Nat,l<=3∧lev=.int .i64 l∧(∀l':Nat,l'<l->aM va asid l' 0 t.es=none)∧Below v2.heap.size v2 wr) (fun lev _=>3-(intOf lev).toNat)
  case atStart=>exact ⟨0,by omega,rfl,fun l' h=>absurd h (by omega),Below.refl _ _⟩
  case round=>
   obtain ⟨l,hl3,rfl,hprev,hb⟩:=hrel;have HPv:Hid (∀l':Nat,l'<l->aM va asid l' 0 t.es=none):=hprev;clear hprev;by_cases hlt:l<=2
   ·have hlt':decide ((l:Int)<=2)=true:=by simp;omega
    go_wp2_with fail;go_loopw [8] (fun i wq=>∃k:Nat,k<=n∧i=.int .i64 k∧(∀j x,j<k->t.es[j]?=some x->bn va asid l x=false)∧Below v2.heap.size v2 wq) (fun i _=>n-(intOf i).toNat)
    case atStart=>exact ⟨0,Nat.zero_le _,rfl,fun j x hj=>absurd hj (by omega),hb⟩
    case round=>
     obtain ⟨k,hk,rfl,hall,hbq⟩:=hrel;have HA:Hid (∀j x,j<k->t.es[j]?=some x->bn va asid l x=false):=hall;clear hall hb;have d12:=Below.cell2 hbq K2 (by omega);have l3:w.heap.size+1<wr.heap.size:=Nat.lt_of_lt_of_le l2 hbq.size;have n1q:=Below.step n12 hbq (Nat.le_refl _);by_cases hkn:k<n
     ·have hx:∃x:EntM,t.es[k]?=some x:=⟨_,List.getElem?_eq_getElem (by have:=HN.out;omega)⟩;obtain ⟨⟨v,lv,tg,asd,gl,pt⟩,hx⟩:=hx;have hok:aO ⟨v,lv,tg,asd,gl,pt⟩:=HE.out _ (List.mem_of_getElem? hx);have hlv:=bN HEb.out k _ hx;obtain ⟨b,off,rfl⟩:∃b off,a=some ⟨b,off,none⟩:=by
       rcases HR.out.2 with h0 | ⟨b,off,rfl,_,_⟩
       ·omega
       ·exact ⟨b,off,rfl⟩
      have HRr:=RowC.keep HR.out n1q;have g0:wr.cell? ⟨b,off+k*6,none⟩=some (.bool v):=av HRr HN.out k _ hx 0 _ (by omega) rfl;have g1:wr.cell? ⟨b,off+k*6+1,none⟩=some (.int .i64 lv):=av HRr HN.out k _ hx 1 _ (by omega) rfl;have g2:wr.cell? ⟨b,off+k*6+2,none⟩=some (.int .u64 tg):=av HRr HN.out k _ hx 2 _ (by omega) rfl;have g3:wr.cell? ⟨b,off+k*6+3,none⟩=some (.int .u64 asd):=av HRr HN.out k _ hx 3 _ (by omega) rfl;have g4:wr.cell? ⟨b,off+k*6+4,none⟩=some (.bool gl):=av HRr HN.out k _ hx 4 _ (by omega) rfl;have g5:wr.cell? ⟨b,off+k*6+5,none⟩=some (.int .u64 pt):=av HRr HN.out k _ hx 5 _ (by omega) rfl;have HXk:Hid (t.es[k]?=some ⟨v,lv,tg,asd,gl,pt⟩):=hx;have HLv:Hid (v=true->0<=lv∧lv<=2):=hlv;have HPt:Hid (bn va asid l ⟨v,lv,tg,asd,gl,pt⟩=false->∀j x,j<k+1->t.es[j]?=some x->bn va asid l x=false):=fun h j x hj hx'=>by
       by_cases e:j=k
       ·subst e;rw [hx] at hx';cases hx';exact h
       ·exact HA.out j x (by omega) hx'
      clear hx HRr hlv;obtain ⟨fv,hfv⟩:∃fv,cj ⟨v,lv,tg,asd,gl,pt⟩ va asid=fv:=⟨_,rfl⟩;have HF:Hid (cj ⟨v,lv,tg,asd,gl,pt⟩ va asid=fv):=hfv;clear hfv;cases hq:(lv == (l:Int))
      ·go_wp2_with fail;go_roundw
       case rel=>exact ⟨k+1,by omega,by go_num,HPt.out (by simp [bn,hq]),hbq⟩
       case measure=>simp [intOf];omega
      ·have hq':lv=(l:Int):=by simpa using hq
       subst hq';clear hq;go_wp2_with fail;refine (eR ⟨v,(l:Int),tg,asd,gl,pt⟩ va asid wr hok HLv.out hv0 hv1).mono ?_;rw [HF.out];rintro e v5 ⟨rfl,n5⟩;have hb5:=Below.step hbq n5 (Nat.le_refl _);have n15:=Below.step n1q n5 (Nat.le_refl _);have p5:v5.cell? ⟨b,off+k*6+5,none⟩=some (.int .u64 pt):=Below.cell2 n5 g5 (by
        rcases HR.out.2 with h0 | ⟨b',off',e,hlt',_⟩
        ·omega
        ·cases e;exact Nat.lt_of_lt_of_le hlt' n1q.size)
       have p12:=Below.cell2 n5 d12 (by omega);obtain ⟨⟨d0,d1,d2,d3⟩,e0,e1,e2,e3⟩:=aG (aF K1.out hb5 l2);clear g0 g1 g2 g3 g4 g5 d12 n5;cases fv
       ·clear d0 d1 d2 d3 e0 e1 e2 e3 p5;go_wp2_with fail;go_roundw
        case rel=>exact ⟨k+1,by omega,by go_num,HPt.out (by simp [bn,HF.out]),hb5⟩
        case measure=>simp [intOf];omega
       ·have hh:bn va asid l ⟨v,(l:Int),tg,asd,gl,pt⟩=true:=by simp [bn,HF.out]
        have hfind:=cM va asid l t.es 0 k _ HXk.out hh HA.out;have HV:Hid ((x1,x2,x3,x4)=(true,(k:Int),(l:Int),pt)):=by
         show _=_;rw [<-HX.out];exact dQ t va asid l k _ HEb.out hlt HPv.out (by rw [hfind,Nat.zero_add])
        clear hh hfind;have hV:=HV.out;cases hV;go_wp2_with fail;exact bodyPost_ret (v:=.agg #[.bool true,.int .i64 k,.int .i64 l,.int .u64 x4]) (by simp [results,Try.results13,go_sem,d0,d1,d2,d3]) rfl ⟨rfl,fQ n15 (by omega) _ _ _ _⟩
     ·have hkn':k=n:=by omega
      have HF:Hid (aM va asid l 0 t.es=none):=cL va asid l t.es 0 (fun j x hx=>HA.out j x (by have h1:=(List.getElem?_eq_some_iff.1 hx).1;have h2:=HN.out;omega) hx);go_wp2_with fail;go_roundw
      case rel=>exact ⟨l+1,by omega,by go_num,fun l' h=>by
       by_cases e:l'=l
       ·subst e;exact HF.out
       ·exact HPv.out l' (by omega),hbq⟩
      case measure=>simp [intOf];omega
   ·obtain ⟨⟨d0,d1,d2,d3⟩,e0,e1,e2,e3⟩:=aG (aF K1.out hb l2);have n14:=Below.step n12 hb (Nat.le_refl _);have hz:(x1,x2,x3,x4)=(false,0,0,0):=by
     rw [<-HX.out];exact cS t va asid HEb.out (fun l' h=>HPv.out l' (by omega))
    cases hz;clear K2;go_wp2_with fail;exact bodyPost_ret (v:=.agg #[.bool false,.int .i64 0,.int .i64 0,.int .u64 0]) (by simp [results,Try.results13,go_sem,d0,d1,d2,d3]) rfl ⟨rfl,fQ n14 (by omega) _ _ _ _⟩
end
def bL (t:TlbM) (f:FenceM):TlbM:=if aT t=true then ⟨t.sets,t.ways,t.es.map (ay f)⟩ else t
def ct (t:TlbM) (e:EntM):Bool:=(an t true && ak e true) || (an t false && ak e false)
def aX (t:TlbM) (e:EntM):Nat:=(e.tag%t.sets*t.ways).toNat
def bK (t:TlbM) (e:EntM) (pick:Int):Nat:=(cB t.es (aX t e) 0 t.ways.toNat).getD (pick%t.ways).toNat
def bs (t:TlbM) (e:EntM) (pick:Int):TlbM:=
 if ct t e=true∧0<=pick∧pick<=255 then ⟨t.sets,t.ways,t.es.set (aX t e+bK t e pick) e⟩ else t
theorem cC {t:TlbM} {p:Bool} (h:an t p=true):(t.sets=1∨t.sets=2∨t.sets=4∨t.sets=8)∧1<=t.ways∧t.ways<=4∧(t.es.length:Int)=t.sets*t.ways:=by
 simp only [an,Bool.and_eq_true,cz,decide_eq_true_eq] at h;exact h.1
theorem ft {t:TlbM} {p:Bool} (h:an t p=true) (j:Nat) (x:EntM) (hx:t.es[j]?=some x):al t p j x=true:=by
 simp only [an,Bool.and_eq_true] at h;have:=cE t p t.es 0 h.2 j x hx;simpa using this
theorem cG {t:TlbM} {p:Bool} (h:an t p=true):aT t=true:=by
 cases p <;> simp [aT,h]
theorem eB (es:List EntM) (first:Nat):∀(left w r:Nat),cB es first w left=some r->w<=r∧r<w+left
 | 0,w,r,h=>by simp [cB] at h
 | left+1,w,r,h=>by
  rw [cB] at h;split at h
  ·cases h;omega
  ·have:=eB es first left (w+1) r h
   omega
theorem fA (t:TlbM) (e:EntM) (pick:Int) (hw:1<=t.ways) (hw':t.ways<=4):(bK t e pick:Int)<t.ways:=by
 unfold bK;cases h:cB t.es (aX t e) 0 t.ways.toNat with
 | none=>
  simp only [Option.getD_none];have h1:0<=pick%t.ways:=Int.emod_nonneg _ (by omega);have h2:pick%t.ways<t.ways:=Int.emod_lt_of_pos _ (by omega);omega
 | some r=>
  simp only [Option.getD_some];have:=eB _ _ _ _ _ h;omega
theorem eC {t:TlbM} {e:EntM} (ht:0<=e.tag) (hs:t.sets=1∨t.sets=2∨t.sets=4∨t.sets=8) (hw:1<=t.ways):(aX t e:Int)=e.tag%t.sets*t.ways:=by
 unfold aX;have:0<=e.tag%t.sets:=Int.emod_nonneg _ (by omega);have:=Int.mul_nonneg this (by omega:0<=t.ways);omega
theorem fS {t:TlbM} {p:Bool} {e:EntM} {pick:Int} (hv:an t p=true) (ht:0<=e.tag):aX t e+bK t e pick<t.es.length:=by
 obtain ⟨hs,hw,hw',hl⟩:=cC hv;have h1:=eC (e:=e) ht hs hw;have h2:=fA t e pick hw hw';have h3:e.tag%t.sets<t.sets:=Int.emod_lt_of_pos _ (by omega);have h4:0<=e.tag%t.sets:=Int.emod_nonneg _ (by omega);have h5:(e.tag%t.sets+1)*t.ways<=t.sets*t.ways:=Int.mul_le_mul_of_nonneg_right (by omega) (by omega);rw [Int.add_mul] at h5;omega
end Go.Proofs.Ytfgogedgolgnaaa
