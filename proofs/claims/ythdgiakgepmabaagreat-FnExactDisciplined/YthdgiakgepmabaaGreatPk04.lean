import Derived.Deep.CutRange
import Derived.Test.YthdgiakgepmabaaGreatPk03
namespace Go.Proofs.YthdgiakgepmabaaGreat
open Go.RowKit
set_option linter.unusedVariables false
set_option maxHeartbeats 6400000
set_option maxRecDepth 20000
structure Lies (v:World) where
 w:World
 h:Bw v w
theorem dS (v:World):Nonempty (Lies v):=⟨⟨v,brf⟩⟩
theorem mG {P:Program} {f:FuncId} {args:Array Value} {v:World} (u:Lies v) {x:Value} (h:Calls P f args u.w fun e w'=>e=.returned x∧Below u.w.heap.size u.w w'):
 Calls P f args u.w fun e w''=>e=.returned x∧∃u':Lies v,w''=u'.w:=
 h.mono fun e w' ⟨he,hb⟩=>⟨he,⟨w',bst u.h hb⟩,rfl⟩
theorem jd {P:Program} {f:FuncId} {args:Array Value} {v:World} (u:Lies v) {x:Value} (h:Calls P f args u.w fun e w'=>e=.returned x∧w'=u.w):
 Calls P f args u.w fun e w''=>e=.returned x∧∃u':Lies v,w''=u'.w:=
 h.mono fun e w' ⟨he,hb⟩=>⟨he,u,hb⟩
theorem FE {P:Program} {f:FuncId} {args:Array Value} {v:World} (u:Lies v) {x:Value} (h:Calls P f args u.w fun e w'=>e=.returned x∧∃n,w'=u.w.drewN n):
 Calls P f args u.w fun e w''=>e=.returned x∧∃u':Lies v,w''=u'.w:=
 h.mono fun e w' ⟨he,n,hb⟩=>⟨he,⟨w',by rw [hb];exact below_drewN u.h n⟩,rfl⟩
theorem aS {v:World} {b o:Nat} {x:Value} (hc:v.cell? (AD b o)=some x) (hb:b<v.heap.size) (u:Lies v):u.w.cell? (AD b o)=some x:=Below.cell2 u.h hc hb
theorem ec {P:Program} {id:Nat} {Q:Exit->Act->World->Prop} {a:Act} {w:World} {l:List Oper} (hm:P.follows .mixedOrders=true) (hB:Region.lexB .any l.toArray=true)
 (h:wpQuiet P l.toArray (fun w'=>∃u:Lies w,w'=u.w) (fun a'=>∀w',(∃u:Lies w,w'=u.w)->Q .normal a' w') l a):(Code.region id l.toArray true).wp P Q a w:=
 wp_region_quiet (C:=fun w'=>∃u:Lies w,w'=u.w) hm hB ⟨⟨w.drew,(brf).drew⟩,rfl⟩ (by simpa using h)
section
attribute [local go_sem ↓] Go.wp_at_zero Go.wp_at_succ
def bE:List EntM->List Value
 | []=>[]
 | e::r=>ky e++bE r
def TlbAt (w:World) (v:Value) (t:TlbM):Prop:=
 ∃a cap,v=.agg #[VI t.sets,VI t.ways,.slice a t.es.length cap]∧RowC w a t.es.length 6 (bE t.es)∧(∀e∈t.es,BE e)∧
  (-9223372036854775808<=t.sets∧t.sets<=9223372036854775807)∧(-9223372036854775808<=t.ways∧t.ways<=9223372036854775807)∧t.es.length<=1048576∧t.es.length<=cap∧cap<=9223372036854775807∧(a=none->t.es.length=0∧cap=0)∧(∀q,a=some q->q.spot=none)
theorem fO:∀es:List EntM,(bE es).length=es.length*6
 | []=>rfl
 | e::r=>by simp [bE,ky,fO r];omega
theorem EP:∀(es:List EntM) (i j:Nat) (hi:i<es.length),j<6->(bE es)[i*6+j]?=(ky es[i])[j]?
 | e::r,0,j,hi,hj=>by
  simp only [bE,List.getElem_cons_zero,Nat.zero_mul,Nat.zero_add];rw [List.getElem?_append_left (by simp [ky];exact hj)]
 | e::r,i+1,j,hi,hj=>by
  simp only [bE,List.getElem_cons_succ];rw [List.getElem?_append_right (by simp [ky];omega)];have:(i+1)*6+j-(ky e).length=i*6+j:=by simp [ky];omega
  rw [this];exact EP r i j (by simpa using hi) hj
def ik (t:TlbM):Bool:=decide ((t.sets=1∨t.sets=2∨t.sets=4∨t.sets=8)∧1<=t.ways∧t.ways<=4∧(t.es.length:Int)=t.sets*t.ways)
def bL (t:TlbM) (p:Bool) (i:Nat) (e:EntM):Bool:=
 (e.valid == false && e.level == 0 && e.tag == 0 && e.asid == 0 && e.glob == false && e.pte == 0) || (aH e p && (e.tag%t.sets == (i:Int)/t.ways))
def fj (t:TlbM) (p:Bool):Nat->List EntM->Bool
 | _,[]=>true
 | i,e::r=>bL t p i e && fj t p (i+1) r
def aF (t:TlbM) (p:Bool):Bool:=ik t && fj t p 0 t.es
theorem eI (t:TlbM) (p:Bool):∀(es:List EntM) (i:Nat),(∀j x,es[j]?=some x->bL t p (i+j) x=true)->fj t p i es=true
 | [],i,h=>rfl
 | e::r,i,h=>by
  simp only [fj,Bool.and_eq_true];refine ⟨by simpa using h 0 e rfl,eI t p r (i+1) (fun j x hx=>?_)⟩;have:=h (j+1) x (by simpa using hx);rw [show i+1+j=i+(j+1) by omega];exact this
theorem Ci (t:TlbM) (p:Bool):∀(es:List EntM) (i j:Nat) (x:EntM),es[j]?=some x->bL t p (i+j) x=false->fj t p i es=false
 | e::r,i,0,x,hx,h=>by
  simp at hx;subst hx;simp only [fj,Nat.add_zero] at h |-;rw [h];rfl
 | e::r,i,j+1,x,hx,h=>by
  simp only [fj];rw [Ci t p r (i+1) j x (by simpa using hx) (by rw [show i+1+j=i+(j+1) by omega];exact h),Bool.and_false]
theorem Gf {x:EntM} {p:Bool} (h:aH x p=true):x.tag<512:=by
 simp only [aH,Bool.and_eq_true,decide_eq_true_eq] at h;have h1:=h.1.1.1.2;unfold tW at h1;split at h1
 ·exact h1
 ·split at h1 <;> omega
theorem xY {w:World} {b off n:Nat} {es:List EntM} (h:RowC w (some (AD b off)) n 6 (bE es)) (hn:es.length=n) (k:Nat) (x:EntM) (hx:es[k]?=some x) (j:Nat) (v:Value) (hj:j<6) (hv:(ky x)[j]?=some v):
 w.cell? ⟨b,off+(k*6+j),none⟩=some v:=by
 have hk:=(List.getElem?_eq_some_iff.1 hx).1;rcases h.2 with h0 | ⟨b',off',e,_,hc⟩
 ·omega
 ·simp at e;obtain ⟨rfl,rfl⟩:=e;refine hc _ _ ?_;rw [EP es k j hk hj];rw [geg hk] at hx;simp at hx;rw [hx];exact hv
theorem Gg (s:Int) (hs:s=1∨s=2∨s=4∨s=8) (b off:Nat) (cap:Nat) (ways:Int) (es:List EntM) (n:Nat) (p:Bool) (w:World) (hr:RowC w (some (AD b off)) n 6 (bE es)) (he:∀e∈es,BE e) (hl:n<=1048576) (hN:es.length=n)
 (hw:1<=ways) (hw':ways<=4) (hn:(n:Int)=s*ways):
  Calls Tryz.prog 134 #[.agg #[VI s,VI ways,.slice (some (AD b off)) n cap],.bool p] w fun e w'=>e=.returned (.bool (fj ⟨s,ways,es⟩ p 0 es))∧Bw w w':=by
 have a1:=BN w #[VI s,VI ways,.slice (some (AD b off)) n cap] 40;have hn':((n:Int) != s*ways)=false:=by rw [bne_eq_false_iff_eq];omega
 have HN:Hid (es.length=n):=hN;have HR:=hid hr;have HE:=hid he;obtain ⟨R,hR⟩:∃R,fj ⟨s,ways,es⟩ p 0 es=R:=⟨_,rfl⟩;rw [hR];have HP:=hid hR;clear hN hr he hn hR;go_enter Tryz.func134,Tryz.ntmps134;go_upto_region 1 with fail;generalize w.alloc (Obj.cells #[VI s,VI ways,.slice (some (AD b off)) n cap] 40)=v1 at a1 |-;obtain ⟨l1,c1,n1⟩:=a1;have c10:=c1 0;have c11:=c1 1;have c12:=c1 2;clear c1;go_cut [45] from 7 to 44 (fun x wx=>x=.bool false∧v1=wx)
 case first=>
  clear HP;rcases hs with rfl | rfl | rfl | rfl <;> (try simp only [Int.one_mul] at hn') <;> (go_wp2_with fail;go_meet;case rel=>exact ⟨by first | rfl | (rw [hn'];done) | (simp;omega),rfl⟩)
 case rest=>
 obtain ⟨rfl,rfl⟩:=hcut;go_wp2;go_loopw [5] (fun i wr=>∃k:Nat,k<=n∧i=VI k∧(∀j x,j<k->es[j]?=some x->bL ⟨s,ways,es⟩ p j x=true)∧Bw v1 wr) (fun i _=>n-(intOf i).toNat)
 case atStart=>exact ⟨0,Nat.zero_le _,rfl,fun j x hj=>absurd hj (by omega),brf⟩
 case round=>
  obtain ⟨k,hk,rfl,hall,hb⟩:=hrel;have HA:=hid hall;clear hall;have d10:=Below.cell2 hb c10 l1;have d11:=Below.cell2 hb c11 l1;have d12:=Below.cell2 hb c12 l1;have l2:=ltl l1 hb.size;have n1r:=bst n1 hb;by_cases hlt:k<n
  ·have hx:∃x:EntM,es[k]?=some x:=⟨_,geg (by have:=HN.out;omega)⟩;obtain ⟨⟨v,lv,tg,asd,gl,pt⟩,hx⟩:=hx;have hok:BE ⟨v,lv,tg,asd,gl,pt⟩:=HE.out _ (List.mem_of_getElem? hx);have HRr:=RowC.keep HR.out n1r;have g0:wr.cell? ⟨b,off+k*6,none⟩=some (.bool v):=xY HRr HN.out k _ hx 0 _ (by omega) rfl;have g1:wr.cell? ⟨b,off+k*6+1,none⟩=some (VI lv):=xY HRr HN.out k _ hx 1 _ (by omega) rfl;have g2:wr.cell? ⟨b,off+k*6+2,none⟩=some (VU tg):=xY HRr HN.out k _ hx 2 _ (by omega) rfl;have g3:wr.cell? ⟨b,off+k*6+3,none⟩=some (VU asd):=xY HRr HN.out k _ hx 3 _ (by omega) rfl;have g4:wr.cell? ⟨b,off+k*6+4,none⟩=some (.bool gl):=xY HRr HN.out k _ hx 4 _ (by omega) rfl;have g5:wr.cell? ⟨b,off+k*6+5,none⟩=some (VU pt):=xY HRr HN.out k _ hx 5 _ (by omega) rfl;have HX:Hid (es[k]?=some ⟨v,lv,tg,asd,gl,pt⟩):=hx;have HPf:Hid (bL ⟨s,ways,es⟩ p k ⟨v,lv,tg,asd,gl,pt⟩=false->false=R):=fun h=>by rw [<-HP.out];exact (Ci _ p es 0 k _ hx (by rw [Nat.zero_add];exact h)).symm
   have HPt:Hid (bL ⟨s,ways,es⟩ p k ⟨v,lv,tg,asd,gl,pt⟩=true->∀j x,j<k+1->es[j]?=some x->bL ⟨s,ways,es⟩ p j x=true):=fun h j x hj hx'=>by
    by_cases e:j=k
    ·subst e;rw [hx] at hx';cases hx';exact h
    ·exact HA.out j x (by omega) hx'
   clear hx HRr;have a2:=BN wr #[.bool v,VI lv,VU tg,VU asd,.bool gl,VU pt] 154;go_wp2_with fail;generalize wr.alloc (Obj.cells #[.bool v,VI lv,VU tg,VU asd,.bool gl,VU pt] 154)=v2 at a2 |-;obtain ⟨l3,c2,n2⟩:=a2;have k0:=aS (c2 0) l3;have k1:=aS (c2 1) l3;have k2:=aS (c2 2) l3;have k3:=aS (c2 3) l3;have k4:=aS (c2 4) l3;have k5:=aS (c2 5) l3;have j0:=aS (Below.cell2 n2 d10 l2) (Nat.lt_trans l2 l3);have j1:=aS (Below.cell2 n2 d11 l2) (Nat.lt_trans l2 l3);have hb2:=bst hb n2;have n12:=bst n1 hb2;have ne:=dS v2;clear c2 d10 d11 d12 hb n2 g0 g1 g2 g3 g4 g5 c10 c11 c12 n1r;obtain ⟨gd,hgd⟩:∃gd,aH ⟨v,lv,tg,asd,gl,pt⟩ p=gd:=⟨_,rfl⟩;have HGd:Hid (∀u:Lies v2,Calls Tryz.prog 137 #[AQ ⟨v,lv,tg,asd,gl,pt⟩,.bool p] u.w fun e w'=>e=.returned (.bool gd)∧Below u.w.heap.size u.w w'):=fun u=>by
    have:=C5 ⟨v,lv,tg,asd,gl,pt⟩ p u.w hok;rw [hgd] at this;exact this
   have HGv:Hid (aH ⟨v,lv,tg,asd,gl,pt⟩ p=gd):=hgd;clear hgd;cases v
   ·have hgf:gd=false:=by rw [<-HGv.out];simp [aH]
    subst hgf;by_cases q1n:¬(lv=0)
    ·have q1:(lv == 0)=false:=by simpa using q1n
     have HQ:Hid ((lv == 0)=false):=q1;clear q1n;refine ec (by kernel_rfl) (by kernel_rfl) ?_;repeat (go_big_quiet_step ((go_at_call 137;exact mG _ (HGd.out _))))
     refine wpQuiet_nil ?_;rintro _ ⟨u,rfl⟩;go_wp2;go_ret;exact ⟨aR (HPf.out (by simp [bL,HGv.out,HQ.out])),bst n12 u.h⟩
    have q1z:lv=0:=Decidable.not_not.1 q1n;subst q1z;clear q1n;by_cases q2n:¬(tg=0)
    ·have q2:(tg == 0)=false:=by simpa using q2n
     have HQ:Hid ((tg == 0)=false):=q2;clear q2n;refine ec (by kernel_rfl) (by kernel_rfl) ?_;repeat (go_big_quiet_step ((go_at_call 137;exact mG _ (HGd.out _))))
     refine wpQuiet_nil ?_;rintro _ ⟨u,rfl⟩;go_wp2;go_ret;exact ⟨aR (HPf.out (by simp [bL,HGv.out,HQ.out])),bst n12 u.h⟩
    have q2z:tg=0:=Decidable.not_not.1 q2n;subst q2z;clear q2n;by_cases q3n:¬(asd=0)
    ·have q3:(asd == 0)=false:=by simpa using q3n
     have HQ:Hid ((asd == 0)=false):=q3;clear q3n;refine ec (by kernel_rfl) (by kernel_rfl) ?_;repeat (go_big_quiet_step ((go_at_call 137;exact mG _ (HGd.out _))))
     refine wpQuiet_nil ?_;rintro _ ⟨u,rfl⟩;go_wp2;go_ret;exact ⟨aR (HPf.out (by simp [bL,HGv.out,HQ.out])),bst n12 u.h⟩
    have q3z:asd=0:=Decidable.not_not.1 q3n;subst q3z;clear q3n;cases hgl:gl
    ·subst hgl;by_cases q5n:¬(pt=0)
     ·have q5:(pt == 0)=false:=by simpa using q5n
      have HQ:Hid ((pt == 0)=false):=q5;clear q5n;refine ec (by kernel_rfl) (by kernel_rfl) ?_;repeat (go_big_quiet_step ((go_at_call 137;exact mG _ (HGd.out _))))
      refine wpQuiet_nil ?_;rintro _ ⟨u,rfl⟩;go_wp2;go_ret;exact ⟨aR (HPf.out (by simp [bL,HGv.out,HQ.out])),bst n12 u.h⟩
     have q5z:pt=0:=Decidable.not_not.1 q5n;subst q5z;clear q5n;refine ec (by kernel_rfl) (by kernel_rfl) ?_;repeat (go_big_quiet_step ((go_at_call 137;exact mG _ (HGd.out _))))
     refine wpQuiet_nil ?_;rintro _ ⟨u,rfl⟩;go_wp2;go_roundw
     case rel=>exact ⟨k+1,by omega,by go_num,HPt.out (by simp [bL]),bst hb2 u.h⟩
     case measure=>simp [intOf];omega
    ·subst hgl;refine ec (by kernel_rfl) (by kernel_rfl) ?_;repeat (go_big_quiet_step ((go_at_call 137;exact mG _ (HGd.out _))))
     refine wpQuiet_nil ?_;rintro _ ⟨u,rfl⟩;go_wp2;go_ret;exact ⟨aR (HPf.out (by simp [bL,HGv.out])),bst n12 u.h⟩
   ·cases gd
    ·
     refine ec (by kernel_rfl) (by kernel_rfl) ?_;repeat (go_big_quiet_step ((go_at_call 137;exact mG _ (HGd.out _))))
     refine wpQuiet_nil ?_;rintro _ ⟨u,rfl⟩;go_wp2;go_ret;exact ⟨aR (HPf.out (by simp [bL,HGv.out])),bst n12 u.h⟩
    ·have htg:tg<512:=Gf HGv.out;have htg0:0<=tg:=hok.2.1.1;have hd0:0<=(k:Int)/ways:=Int.ediv_nonneg (by omega) (by omega);have hd1:(k:Int)/ways<=1048576:=Int.le_trans (Int.ediv_le_self _ (by omega)) (by omega);by_cases hq:tg%s=(k:Int)/ways
     ·have hq':(tg%s != (k:Int)/ways)=false:=by rw [bne_eq_false_iff_eq];exact hq
      have HQ:Hid (tg%s=(k:Int)/ways):=hq;clear hq;rcases hs with rfl | rfl | rfl | rfl;all_goals
       try rw [Int.emod_one] at hq'
       refine ec (by kernel_rfl) (by kernel_rfl) ?_;repeat (go_big_quiet_step ((go_at_call 137;exact mG _ (HGd.out _))))
       refine wpQuiet_nil ?_;rintro _ ⟨u,rfl⟩;go_wp2;go_roundw
       case rel=>exact ⟨k+1,by omega,by go_num,HPt.out (by have hz:=HQ.out;first | (simp [bL,HGv.out,hz];done) | (rw [Int.emod_one] at hz;simp [bL,HGv.out,hz])),bst hb2 u.h⟩
       case measure=>simp [intOf];omega
     ·have hq':(tg%s != (k:Int)/ways)=true:=by rw [bne_iff_ne];exact hq
      have HQ:Hid (¬tg%s=(k:Int)/ways):=hq;clear hq;rcases hs with rfl | rfl | rfl | rfl;all_goals
       try rw [Int.emod_one] at hq'
       refine ec (by kernel_rfl) (by kernel_rfl) ?_;repeat (go_big_quiet_step ((go_at_call 137;exact mG _ (HGd.out _))))
       refine wpQuiet_nil ?_;rintro _ ⟨u,rfl⟩;go_wp2;go_ret;exact ⟨aR (HPf.out (by have hz:=HQ.out;first | (simp [bL,hz];done) | (rw [Int.emod_one] at hz;simp [bL,hz]))),bst n12 u.h⟩
  ·have hkn:k=n:=by omega
   subst hkn;have HT:Hid (true=R):=by
    show true=R;rw [<-HP.out];exact (eI _ p es 0 (fun j x hx=>by rw [Nat.zero_add];exact HA.out j x (by have h1:=(List.getElem?_eq_some_iff.1 hx).1;have h2:=HN.out;omega) hx)).symm
   clear c10 c11 c12 n1 d10 d11;go_wp2;go_ret;exact ⟨aR HT.out,n1r⟩
end
theorem FT (a:Option Addr) (n cap:Nat) (sets ways:Int) (p:Bool) (w:World) (hl:n<=1048576) (hs: -9223372036854775808<=sets∧sets<=9223372036854775807) (hw: -9223372036854775808<=ways∧ways<=9223372036854775807)
 (h:¬((sets=1∨sets=2∨sets=4∨sets=8)∧1<=ways∧ways<=4∧(n:Int)=sets*ways)):
 Calls Tryz.prog 134 #[.agg #[VI sets,VI ways,.slice a n cap],.bool p] w fun e w'=>e=.returned (.bool false)∧Bw w w':=by
 by_cases h1:sets=1∨sets=2∨sets=4∨sets=8
 ·by_cases h2:ways<1
  ·rcases h1 with rfl | rfl | rfl | rfl;all_goals
    go_enter Tryz.func134,Tryz.ntmps134;go_wp2;go_ret;exact ⟨rfl,(brf).alloc nle _⟩
  by_cases h3:4<ways
  ·rcases h1 with rfl | rfl | rfl | rfl;all_goals
    go_enter Tryz.func134,Tryz.ntmps134;go_wp2;go_ret;exact ⟨rfl,(brf).alloc nle _⟩
  rcases h1 with rfl | rfl | rfl | rfl
  ·have h4:((n:Int) != ways)=true:=by rw [bne_iff_ne];omega
   clear h;go_enter Tryz.func134,Tryz.ntmps134;go_wp2;go_ret;exact ⟨rfl,(brf).alloc nle _⟩
  ·have h4:((n:Int) != 2*ways)=true:=by rw [bne_iff_ne];omega
   clear h;go_enter Tryz.func134,Tryz.ntmps134;go_wp2;go_ret;exact ⟨rfl,(brf).alloc nle _⟩
  ·have h4:((n:Int) != 4*ways)=true:=by rw [bne_iff_ne];omega
   clear h;go_enter Tryz.func134,Tryz.ntmps134;go_wp2;go_ret;exact ⟨rfl,(brf).alloc nle _⟩
  ·have h4:((n:Int) != 8*ways)=true:=by rw [bne_iff_ne];omega
   clear h;go_enter Tryz.func134,Tryz.ntmps134;go_wp2;go_ret;exact ⟨rfl,(brf).alloc nle _⟩
 ·have q1:(sets != 1)=true:=by rw [bne_iff_ne];omega
  have q2:(sets != 2)=true:=by rw [bne_iff_ne];omega
  have q4:(sets != 4)=true:=by rw [bne_iff_ne];omega
  have q8:(sets != 8)=true:=by rw [bne_iff_ne];omega
  clear h h1;go_enter Tryz.func134,Tryz.ntmps134;go_wp2;go_ret;exact ⟨rfl,(brf).alloc nle _⟩
theorem BI (v:Value) (t:TlbM) (p:Bool) (w:World) (h:TlbAt w v t):
 Calls Tryz.prog 134 #[v,.bool p] w fun e w'=>e=.returned (.bool (aF t p))∧Bw w w':=by
 obtain ⟨a,cap,rfl,hr,he,hs,hw,hl,hlc,hcm,hnil,hsp⟩:=h;obtain ⟨sets,ways,es⟩:=t;simp only at hr he hs hw hl hlc hnil |-;by_cases hsh:(sets=1∨sets=2∨sets=4∨sets=8)∧1<=ways∧ways<=4∧(es.length:Int)=sets*ways
 ·have hv:aF ⟨sets,ways,es⟩ p=fj ⟨sets,ways,es⟩ p 0 es:=by simp only [aF,ik];rw [decide_eq_true hsh,Bool.true_and]
  rw [hv];obtain ⟨h1,h2,h3,h4⟩:=hsh;obtain ⟨b,off,rfl⟩:∃b off,a=some (AD b off):=by
   rcases hr.2 with h0 | ⟨b,off,rfl,_,_⟩
   ·rw [h0] at h4;rcases h1 with rfl | rfl | rfl | rfl <;> simp at h4 <;> omega
   ·exact ⟨b,off,rfl⟩
  exact Gg sets h1 b off cap ways es es.length p w hr he hl rfl h2 h3 h4
 ·have hv:aF ⟨sets,ways,es⟩ p=false:=by simp only [aF,ik];rw [decide_eq_false hsh,Bool.false_and]
  rw [hv];exact FT a es.length cap sets ways p w hl hs hw hsh
section
attribute [local go_sem ↓] Go.wp_at_zero Go.wp_at_succ
theorem TlbAt.keep {w w':World} {v:Value} {t:TlbM} (h:TlbAt w v t) (hb:Bw w w'):TlbAt w' v t:=by
 obtain ⟨a,cap,rfl,hr,r⟩:=h;exact ⟨a,cap,rfl,hr.keep hb,r⟩
def fH (t:TlbM):Bool:=aF t true || aF t false
def gQ (x:EntM) (va asid:Int):Bool:=x.valid && (x.tag == cG va x.level) && (x.glob || x.asid == asid)
theorem DO (v:Value) (t:TlbM) (w:World) (h:TlbAt w v t):
 Calls Tryz.prog 126 #[v] w fun e w'=>e=.returned (.bool (fH t))∧Bw w w':=by
 have HT:=hid h;obtain ⟨a,cap,rfl,_⟩:=h;have a1:=BN w #[VI t.sets,VI t.ways,.slice a t.es.length cap] 40;unfold fH;obtain ⟨p,hp⟩:∃p,aF t true=p:=⟨_,rfl⟩;obtain ⟨q,hq⟩:∃q,aF t false=q:=⟨_,rfl⟩;rw [hp,hq];have HP:=hid hp;have HQ:=hid hq;clear hp hq;go_enter Tryz.func126,Tryz.ntmps126;go_wp2_with fail;generalize w.alloc (Obj.cells #[VI t.sets,VI t.ways,.slice a t.es.length cap] 40)=v1 at a1 |-;obtain ⟨l1,c1,n1⟩:=a1;have c10:=c1 0;have c11:=c1 1;have c12:=c1 2;refine (BI _ t true v1 (HT.out.keep n1)).mono ?_;rw [HP.out];rintro e v2 ⟨rfl,n2⟩;have d10:=Below.cell2 n2 c10 l1;have d11:=Below.cell2 n2 c11 l1;have d12:=Below.cell2 n2 c12 l1;have n12:=bst n1 n2;clear c1 c10 c11 c12 n1 n2;cases p
 ·go_wp2_with fail;refine (BI _ t false v2 (HT.out.keep n12)).mono ?_;rw [HQ.out];rintro e v3 ⟨rfl,n3⟩;have n13:=bst n12 n3;clear d10 d11 d12 n3;go_wp2;go_ret;exact ⟨aR (by simp),n13⟩
 ·go_wp2;go_ret;exact ⟨aR (by simp),n12⟩
theorem GO (x:EntM) (va asid:Int) (w:World) (hx:BE x) (hlv:x.valid=true->0<=x.level∧x.level<=2) (hv0:0<=va) (hv1:va<=18446744073709551615):
 Calls Tryz.prog 135 #[AQ x,VU va,VU asid] w fun e w'=>e=.returned (.bool (gQ x va asid))∧Bw w w':=by
 obtain ⟨v,lv,tg,asd,gl,pt⟩:=x;unfold AQ gQ;simp only at hlv |-;have n1:=(Below.refl w.heap.size w).alloc nle (Obj.cells #[.bool v,VI lv,VU tg,VU asd,.bool gl,VU pt] 154);cases v
 ·go_enter Tryz.func135,Tryz.ntmps135;go_wp2;go_quiet (fail);go_wp2;go_ret;exact ⟨aR (by simp),below_drewN n1 nq⟩
 obtain ⟨hl0,hl2⟩:=hlv rfl;obtain ⟨tv,htv⟩:∃tv,cG va lv=tv:=⟨_,rfl⟩;rw [htv];have HC:Hid (∀w:World,Calls Tryz.prog 38 #[VU va,VI lv] w fun e w'=>e=.returned (VU tv)∧∃n,w'=w.drewN n):=fun w=>by
  have:=Dk va lv w hv0 hv1 hl0 hl2;rw [htv] at this;exact this
 clear htv;cases ht:(tg == tv)
 ·go_enter Tryz.func135,Tryz.ntmps135;go_wp2;go_quiet ((go_at_call 38;exact Calls.quiet_of (HC.out _)));go_wp2;go_ret;exact ⟨aR (by simp),below_drewN n1 nq⟩
 ·cases gl
  ·go_enter Tryz.func135,Tryz.ntmps135;go_wp2;go_quiet ((go_at_call 38;exact Calls.quiet_of (HC.out _)));go_wp2;go_ret;exact ⟨aR (by simp),below_drewN n1 nq⟩
  ·go_enter Tryz.func135,Tryz.ntmps135;go_wp2;go_quiet ((go_at_call 38;exact Calls.quiet_of (HC.out _)));go_wp2;go_ret;exact ⟨aR (by simp),below_drewN n1 nq⟩
end
section
attribute [local go_sem ↓] Go.wp_at_zero Go.wp_at_succ
def gn (va asid l:Int) (x:EntM):Bool:=x.level == l && gQ x va asid
def cw (va asid l:Int):Nat->List EntM->Option (Nat × EntM)
 | _,[]=>none
 | i,e::r=>if gn va asid l e=true then some (i,e) else cw va asid l (i+1) r
def fo (l:Int):Option (Nat × EntM)->Option (Bool × Int × Int × Int)
 | none=>none
 | some (i,e)=>some (true,(i:Int),l,e.pte)
def aX (t:TlbM) (va asid:Int):Bool × Int × Int × Int:=
 if fH t=false then (false,0,0,0)
 else ((fo 0 (cw va asid 0 0 t.es)).or ((fo 1 (cw va asid 1 0 t.es)).or (fo 2 (cw va asid 2 0 t.es)))).getD (false,0,0,0)
theorem mE (va asid l:Int):∀(es:List EntM) (i:Nat),(∀(j:Nat) x,es[j]?=some x->gn va asid l x=false)->cw va asid l i es=none
 | [],i,h=>rfl
 | e::r,i,h=>by
  rw [cw,if_neg (by rw [h 0 e rfl];simp)];exact mE va asid l r (i+1) (fun j x hx=>h (j+1) x (by simpa using hx))
theorem mF (va asid l:Int):∀(es:List EntM) (i k:Nat) (x:EntM),es[k]?=some x->gn va asid l x=true->(∀j y,j<k->es[j]?=some y->gn va asid l y=false)->cw va asid l i es=some (i+k,x)
 | e::r,i,0,x,hx,hh,h=>by
  simp at hx;subst hx;rw [cw,if_pos hh];rfl
 | e::r,i,k+1,x,hx,hh,h=>by
  rw [cw,if_neg (by rw [h 0 e (by omega) rfl];simp),mF va asid l r (i+1) k x (by simpa using hx) hh (fun j y hj hy=>h (j+1) y (by omega) (by simpa using hy))];congr 2;omega
theorem jc (t:TlbM) (p:Bool):∀(es:List EntM) (i:Nat),fj t p i es=true->∀j x,es[j]?=some x->bL t p (i+j) x=true
 | e::r,i,h,0,x,hx=>by
  simp at hx;subst hx;simp only [fj,Bool.and_eq_true] at h;exact h.1
 | e::r,i,h,j+1,x,hx=>by
  simp only [fj,Bool.and_eq_true] at h;have:=jc t p r (i+1) h.2 j x (by simpa using hx);rw [show i+(j+1)=i+1+j by omega];exact this
theorem lG {t:TlbM} {p:Bool} {i:Nat} {x:EntM} (h:bL t p i x=true) (hv:x.valid=true):0<=x.level∧x.level<=2:=by
 simp only [bL,Bool.or_eq_true,Bool.and_eq_true] at h;rcases h with h | h
 ·rw [hv] at h;simp at h
 ·have:=h.1;simp only [aH,Bool.and_eq_true,decide_eq_true_eq] at this;exact ⟨this.1.1.1.1.1.2,this.1.1.1.1.2⟩
theorem dv {t:TlbM} (h:fH t=true) (j:Nat) (x:EntM) (hx:t.es[j]?=some x) (hv:x.valid=true):0<=x.level∧x.level<=2:=by
 simp only [fH,aF,Bool.or_eq_true,Bool.and_eq_true] at h;rcases h with h | h
 ·exact lG (jc t true t.es 0 h.2 j x hx) hv
 ·exact lG (jc t false t.es 0 h.2 j x hx) hv
theorem yR (t:TlbM) (va asid:Int) (l k:Nat) (x:EntM) (he:fH t=true) (hl:l<=2) (hp:∀l':Nat,l'<l->cw va asid l' 0 t.es=none) (hf:cw va asid l 0 t.es=some (k,x)):
 aX t va asid=(true,(k:Int),(l:Int),x.pte):=by
 unfold aX;rw [if_neg (by rw [he];simp)];rcases (show l=0∨l=1∨l=2 by omega) with rfl | rfl | rfl
 ·have hf':cw va asid 0 0 t.es=some (k,x):=hf;rw [hf'];rfl
 ·have h0:cw va asid 0 0 t.es=none:=hp 0 (by omega);have hf':cw va asid 1 0 t.es=some (k,x):=hf;rw [h0,hf'];rfl
 ·have h0:cw va asid 0 0 t.es=none:=hp 0 (by omega);have h1:cw va asid 1 0 t.es=none:=hp 1 (by omega);have hf':cw va asid 2 0 t.es=some (k,x):=hf;rw [h0,h1,hf'];rfl
theorem FD (t:TlbM) (va asid:Int) (he:fH t=true) (hp:∀l':Nat,l'<3->cw va asid l' 0 t.es=none):aX t va asid=(false,0,0,0):=by
 have h0:cw va asid 0 0 t.es=none:=hp 0 (by omega);have h1:cw va asid 1 0 t.es=none:=hp 1 (by omega);have h2:cw va asid 2 0 t.es=none:=hp 2 (by omega);unfold aX;rw [if_neg (by rw [he];simp),h0,h1,h2];rfl
theorem BL (v:Value) (t:TlbM) (va asid:Int) (w:World) (h:TlbAt w v t) (hv0:0<=va) (hv1:va<=18446744073709551615):
 Calls Tryz.prog 118 #[v,VU va,VU asid] w fun e w'=>
  e=.returned (.agg #[.bool (aX t va asid).1,VI (aX t va asid).2.1,VI (aX t va asid).2.2.1,VU (aX t va asid).2.2.2])∧Bw w w':=by
 have HT:=hid h;obtain ⟨a,cap,rfl,hr,he,hs,hw,hl,hlc,hcm,hnil,hsp⟩:=h;obtain ⟨⟨x1,x2,x3,x4⟩,hX⟩:∃X,aX t va asid=X:=⟨_,rfl⟩;rw [hX];simp only;have HX:=hid hX;obtain ⟨eb,heb⟩:∃eb,fH t=eb:=⟨_,rfl⟩;have HEb:=hid heb;obtain ⟨n,hn⟩:∃n,t.es.length=n:=⟨_,rfl⟩;have HN:=hid hn;rw [hn] at hr hl hlc hnil |-;have HR:=hid hr;have HE:=hid he;have n1:=((Below.refl w.heap.size w).alloc nle (Obj.cells #[VI t.sets,VI t.ways,.slice a n cap] 40)).alloc (by simp) (Obj.cells #[.bool false,VI 0,VI 0,VU 0] 237);have H1:Hid (((w.alloc (Obj.cells #[VI t.sets,VI t.ways,.slice a n cap] 40)).alloc (Obj.cells #[.bool false,VI 0,VI 0,VU 0] 237)).heap[w.heap.size+1]?=some (.cells #[.bool false,VI 0,VI 0,VU 0] 237 (0,0))):=by
  have:=dN (w.alloc (Obj.cells #[VI t.sets,VI t.ways,.slice a n cap] 40)) (Obj.cells #[.bool false,VI 0,VI 0,VU 0] 237);simp only [World.size_alloc] at this;exact this
 have H2:Hid (((w.alloc (Obj.cells #[VI t.sets,VI t.ways,.slice a n cap] 40)).alloc (Obj.cells #[.bool false,VI 0,VI 0,VU 0] 237)).cell? (AD w.heap.size 2)=some (.slice a n cap)):=by
  show _=_;simp
 have l1:w.heap.size+1<((w.alloc (Obj.cells #[VI t.sets,VI t.ways,.slice a n cap] 40)).alloc (Obj.cells #[.bool false,VI 0,VI 0,VU 0] 237)).heap.size:=by simp
 clear hX heb hn hr he hs hw hnil hsp;go_enter Tryz.func118,Tryz.ntmps118;go_wp2_with fail;generalize (w.alloc (Obj.cells #[VI t.sets,VI t.ways,.slice a n cap] 40)).alloc (Obj.cells #[.bool false,VI 0,VI 0,VU 0] 237)=v1 at n1 H1 H2 l1 |-;have HTn:Hid (TlbAt w (.agg #[VI t.sets,VI t.ways,.slice a n cap]) t):=by have:=HT.out;rw [HN.out] at this;exact this
 refine (DO _ t v1 (HTn.out.keep n1)).mono ?_;rw [HEb.out];rintro e v2 ⟨rfl,n2⟩;have n12:=bst n1 n2;have K1:=hid (ag H1.out n2 l1);have K2:=Below.cell2 n2 H2.out (by omega);have l2:=ltl l1 n2.size;clear n1 n2 H1 H2 l1;cases eb
 ·obtain ⟨⟨d0,d1,d2,d3⟩,e0,e1,e2,e3⟩:=aO K1.out;have hz:(x1,x2,x3,x4)=(false,0,0,0):=by rw [<-HX.out];unfold aX;rw [if_pos HEb.out]
  cases hz;go_wp2_with fail;exact bodyPost_ret (v:=.agg #[.bool false,VI 0,VI 0,VU 0]) (by simp [results,Tryz.results118,go_sem,d0,d1,d2,d3]) rfl ⟨rfl,DY n12 (by omega) _ _ _ _⟩
 ·go_wp2;go_loopw [7] (fun lev wr=>∃l:Nat,l<=3∧lev=VI l∧(∀l':Nat,l'<l->cw va asid l' 0 t.es=none)∧Bw v2 wr) (fun lev _=>3-(intOf lev).toNat)
  case atStart=>exact ⟨0,by omega,rfl,fun l' h=>absurd h (by omega),brf⟩
  case round=>
   obtain ⟨l,hl3,rfl,hprev,hb⟩:=hrel;have HPv:=hid hprev;clear hprev;by_cases hlt:l<=2
   ·have hlt':decide ((l:Int)<=2)=true:=by simp;omega
    go_wp2;go_loopw [8] (fun i wq=>∃k:Nat,k<=n∧i=VI k∧(∀j x,j<k->t.es[j]?=some x->gn va asid l x=false)∧Bw v2 wq) (fun i _=>n-(intOf i).toNat)
    case atStart=>exact ⟨0,Nat.zero_le _,rfl,fun j x hj=>absurd hj (by omega),hb⟩
    case round=>
     obtain ⟨k,hk,rfl,hall,hbq⟩:=hrel;have HA:=hid hall;clear hall hb;have d12:=Below.cell2 hbq K2 (by omega);have l3:w.heap.size+1<wr.heap.size:=ltl l2 hbq.size;have n1q:=bst n12 hbq;by_cases hkn:k<n
     ·have hx:∃x:EntM,t.es[k]?=some x:=⟨_,geg (by have:=HN.out;omega)⟩;obtain ⟨⟨v,lv,tg,asd,gl,pt⟩,hx⟩:=hx;have hok:BE ⟨v,lv,tg,asd,gl,pt⟩:=HE.out _ (List.mem_of_getElem? hx);have hlv:=dv HEb.out k _ hx;obtain ⟨b,off,rfl⟩:∃b off,a=some (AD b off):=by
       rcases HR.out.2 with h0 | ⟨b,off,rfl,_,_⟩
       ·omega
       ·exact ⟨b,off,rfl⟩
      have HRr:=RowC.keep HR.out n1q;have g0:wr.cell? ⟨b,off+k*6,none⟩=some (.bool v):=xY HRr HN.out k _ hx 0 _ (by omega) rfl;have g1:wr.cell? ⟨b,off+k*6+1,none⟩=some (VI lv):=xY HRr HN.out k _ hx 1 _ (by omega) rfl;have g2:wr.cell? ⟨b,off+k*6+2,none⟩=some (VU tg):=xY HRr HN.out k _ hx 2 _ (by omega) rfl;have g3:wr.cell? ⟨b,off+k*6+3,none⟩=some (VU asd):=xY HRr HN.out k _ hx 3 _ (by omega) rfl;have g4:wr.cell? ⟨b,off+k*6+4,none⟩=some (.bool gl):=xY HRr HN.out k _ hx 4 _ (by omega) rfl;have g5:wr.cell? ⟨b,off+k*6+5,none⟩=some (VU pt):=xY HRr HN.out k _ hx 5 _ (by omega) rfl;have HXk:Hid (t.es[k]?=some ⟨v,lv,tg,asd,gl,pt⟩):=hx;have HLv:Hid (v=true->0<=lv∧lv<=2):=hlv;have HPt:Hid (gn va asid l ⟨v,lv,tg,asd,gl,pt⟩=false->∀j x,j<k+1->t.es[j]?=some x->gn va asid l x=false):=fun h j x hj hx'=>by
       by_cases e:j=k
       ·subst e;rw [hx] at hx';cases hx';exact h
       ·exact HA.out j x (by omega) hx'
      clear hx HRr hlv;obtain ⟨fv,hfv⟩:∃fv,gQ ⟨v,lv,tg,asd,gl,pt⟩ va asid=fv:=⟨_,rfl⟩;have HF:Hid (gQ ⟨v,lv,tg,asd,gl,pt⟩ va asid=fv):=hfv;clear hfv;cases hq:(lv == (l:Int))
      ·go_wp2;go_roundw
       case rel=>exact ⟨k+1,by omega,by go_num,HPt.out (by simp [gn,hq]),hbq⟩
       case measure=>simp [intOf];omega
      ·have hq':lv=(l:Int):=by simpa using hq
       subst hq';clear hq;go_wp2_with fail;refine (GO ⟨v,(l:Int),tg,asd,gl,pt⟩ va asid wr hok HLv.out hv0 hv1).mono ?_;rw [HF.out];rintro e v5 ⟨rfl,n5⟩;have hb5:=bst hbq n5;have n15:=bst n1q n5;have p5:v5.cell? ⟨b,off+k*6+5,none⟩=some (VU pt):=Below.cell2 n5 g5 (by
        rcases HR.out.2 with h0 | ⟨b',off',e,hlt',_⟩
        ·omega
        ·cases e;exact ltl hlt' n1q.size)
       have p12:=Below.cell2 n5 d12 (by omega);obtain ⟨⟨d0,d1,d2,d3⟩,e0,e1,e2,e3⟩:=aO (ag K1.out hb5 l2);clear g0 g1 g2 g3 g4 g5 d12 n5;cases fv
       ·clear d0 d1 d2 d3 e0 e1 e2 e3 p5;go_wp2;go_roundw
        case rel=>exact ⟨k+1,by omega,by go_num,HPt.out (by simp [gn,HF.out]),hb5⟩
        case measure=>simp [intOf];omega
       ·have hh:gn va asid l ⟨v,(l:Int),tg,asd,gl,pt⟩=true:=by simp [gn,HF.out]
        have hfind:=mF va asid l t.es 0 k _ HXk.out hh HA.out;have HV:Hid ((x1,x2,x3,x4)=(true,(k:Int),(l:Int),pt)):=by
         show _=_;rw [<-HX.out];exact yR t va asid l k _ HEb.out hlt HPv.out (by rw [hfind,Nat.zero_add])
        clear hh hfind;have hV:=HV.out;cases hV;go_wp2_with fail;exact bodyPost_ret (v:=.agg #[.bool true,VI k,VI l,VU x4]) (by simp [results,Tryz.results118,go_sem,d0,d1,d2,d3]) rfl ⟨rfl,DY n15 (by omega) _ _ _ _⟩
     ·have hkn':k=n:=by omega
      have HF:=hid (mE va asid l t.es 0 (fun j x hx=>HA.out j x (by have h1:=(List.getElem?_eq_some_iff.1 hx).1;have h2:=HN.out;omega) hx));go_wp2;go_roundw
      case rel=>exact ⟨l+1,by omega,by go_num,fun l' h=>by
       by_cases e:l'=l
       ·subst e;exact HF.out
       ·exact HPv.out l' (by omega),hbq⟩
      case measure=>simp [intOf];omega
   ·obtain ⟨⟨d0,d1,d2,d3⟩,e0,e1,e2,e3⟩:=aO (ag K1.out hb l2);have n14:=bst n12 hb;have hz:(x1,x2,x3,x4)=(false,0,0,0):=by
     rw [<-HX.out];exact FD t va asid HEb.out (fun l' h=>HPv.out l' (by omega))
    cases hz;clear K2;go_wp2_with fail;exact bodyPost_ret (v:=.agg #[.bool false,VI 0,VI 0,VU 0]) (by simp [results,Tryz.results118,go_sem,d0,d1,d2,d3]) rfl ⟨rfl,DY n14 (by omega) _ _ _ _⟩
end
structure FenceM where
 hasVa:Bool
 va:Int
 hasAsid:Bool
 asid:Int
def By (f:FenceM) (level tag asid:Int) (glob:Bool):Bool:=
 !(f.hasVa && (!bY f.va || tag != cG f.va level)) && (!f.hasAsid || (!glob && asid == f.asid))
def gZ (f:FenceM) (e:EntM):EntM:=if (e.valid && By f e.level e.tag e.asid e.glob)=true then bC else e
def iU (es:List EntM) (first:Nat):Nat->Nat->Option Nat
 | _,0=>none
 | w,left+1=>if (es[first+w]?.getD bC).valid=false then some w else iU es first (w+1) left
structure KM where
 i:TlbM
 d:TlbM
 p:TlbM
def cQ:TlbM:=⟨0,0,[]⟩
def k0M:KM:=⟨cQ,cQ,cQ⟩
def bj (k:KM):Bool:=aF k.i false && aF k.d false && aF k.p true
def fw (level va satp pte:Int):EntM:=⟨true,level,cG va level,aB satp,aZ pte 32,pte⟩
def eL (t:TlbM) (f:FenceM):TlbM:=if fH t=true then ⟨t.sets,t.ways,t.es.map (gZ f)⟩ else t
def qO (t:TlbM) (e:EntM):Bool:=(aF t true && aH e true) || (aF t false && aH e false)
def BF (t:TlbM) (e:EntM):Nat:=(e.tag%t.sets*t.ways).toNat
def jX (t:TlbM) (e:EntM) (pick:Int):Nat:=(iU t.es (BF t e) 0 t.ways.toNat).getD (pick%t.ways).toNat
def cU (t:TlbM) (e:EntM) (pick:Int):TlbM:=
 if qO t e=true∧0<=pick∧pick<=255 then ⟨t.sets,t.ways,t.es.set (BF t e+jX t e pick) e⟩ else t
def bF (va satp pick:Int):List aD->TlbM->TlbM
 | [],p=>p
 | r::rs,p=>bF va satp pick rs (if aV r.2.2 r.1=1 then cU p (fw r.1 va satp r.2.2) pick else p)
def aE (zs:List Int) (satp va:Int) (up:Bool × Int × Int × Int):Int × Int × Int × List aD:=
 if up.1=true then aN zs va (up.2.2.1-1).toNat (cx up.2.2.2) else aU zs satp va
def qP (k:KM) (kind:Int) (t:TlbM):KM:=if kind=0 then ⟨t,k.d,k.p⟩ else ⟨k.i,t,k.p⟩
def du (k:KM) (kind:Int):TlbM:=if kind=0 then k.i else k.d
def oe (zs:List Int) (mode:Int) (sum mxr:Bool) (satp:Int) (k:KM) (kind va pick:Int):(Int × Int) × KM:=
 if bj k=false∨kind<0∨2<kind∨mode<0∨2<mode∨pick<0∨255<pick then ((63,0),k0M)
 else if onM mode satp=false then ((0,va),k)
 else if bY va=false then ((dI kind,0),k)
 else if (aX (du k kind) va (aB satp)).1=true then (eT (aX (du k kind) va (aB satp)).2.2.2 (aX (du k kind) va (aB satp)).2.2.1 mode sum mxr kind va,k)
 else
  let r:=aE zs satp va (aX k.p va (aB satp))
  let a:=bw r mode sum mxr kind va
  let k':KM:=⟨k.i,k.d,bF va satp pick r.2.2.2 k.p⟩
  (a,if a.1=0 then qP k' kind (cU (du k kind) (fw r.2.1 va satp r.2.2.1) pick) else k')
theorem eM {t:TlbM} {p:Bool} (h:aF t p=true):(t.sets=1∨t.sets=2∨t.sets=4∨t.sets=8)∧1<=t.ways∧t.ways<=4∧(t.es.length:Int)=t.sets*t.ways:=by
 simp only [aF,Bool.and_eq_true,ik,decide_eq_true_eq] at h;exact h.1
theorem fx {t:TlbM} {p:Bool} (h:aF t p=true) (j:Nat) (x:EntM) (hx:t.es[j]?=some x):bL t p j x=true:=by
 simp only [aF,Bool.and_eq_true] at h;have:=jc t p t.es 0 h.2 j x hx;simpa using this
theorem oz {t:TlbM} {p:Bool} (h:ik t=true) (hp:∀(j:Nat) x,t.es[j]?=some x->bL t p j x=true):aF t p=true:=by
 simp only [aF,Bool.and_eq_true];exact ⟨h,eI t p t.es 0 (fun j x hx=>by simpa using hp j x hx)⟩
theorem co {t:TlbM} {p:Bool} (h:aF t p=true):fH t=true:=by
 cases p <;> simp [fH,h]
theorem ta (es:List EntM) (first:Nat):∀(left w r:Nat),iU es first w left=some r->w<=r∧r<w+left
 | 0,w,r,h=>by simp [iU] at h
 | left+1,w,r,h=>by
  rw [iU] at h;split at h
  ·cases h;omega
  ·have:=ta es first left (w+1) r h
   omega
theorem zI (t:TlbM) (e:EntM) (pick:Int) (hw:1<=t.ways) (hw':t.ways<=4):(jX t e pick:Int)<t.ways:=by
 unfold jX;cases h:iU t.es (BF t e) 0 t.ways.toNat with
 | none=>
  simp only [Option.getD_none];have h1:0<=pick%t.ways:=Int.emod_nonneg _ (by omega);have h2:pick%t.ways<t.ways:=Int.emod_lt_of_pos _ (by omega);omega
 | some r=>
  simp only [Option.getD_some];have:=ta _ _ _ _ _ h;omega
theorem yn {t:TlbM} {e:EntM} (ht:0<=e.tag) (hs:t.sets=1∨t.sets=2∨t.sets=4∨t.sets=8) (hw:1<=t.ways):(BF t e:Int)=e.tag%t.sets*t.ways:=by
 unfold BF;have:0<=e.tag%t.sets:=Int.emod_nonneg _ (by omega);have:=Int.mul_nonneg this (by omega:0<=t.ways);omega
theorem IU {t:TlbM} {p:Bool} {e:EntM} {pick:Int} (hv:aF t p=true) (ht:0<=e.tag):BF t e+jX t e pick<t.es.length:=by
 obtain ⟨hs,hw,hw',hl⟩:=eM hv;have h1:=yn (e:=e) ht hs hw;have h2:=zI t e pick hw hw';have h3:e.tag%t.sets<t.sets:=Int.emod_lt_of_pos _ (by omega);have h4:0<=e.tag%t.sets:=Int.emod_nonneg _ (by omega);have h5:(e.tag%t.sets+1)*t.ways<=t.sets*t.ways:=Int.mul_le_mul_of_nonneg_right (by omega) (by omega);rw [Int.add_mul] at h5;omega
theorem zJ {t:TlbM} {p:Bool} {e:EntM} {pick:Int} (hv:aF t p=true) (ht:0<=e.tag):((BF t e+jX t e pick:Nat):Int)/t.ways=e.tag%t.sets:=by
 obtain ⟨hs,hw,hw',hl⟩:=eM hv;have h1:=yn (e:=e) ht hs hw;have h2:=zI t e pick hw hw';rw [show ((BF t e+jX t e pick:Nat):Int)=(jX t e pick:Int)+(e.tag%t.sets)*t.ways by omega,Int.add_mul_ediv_right _ _ (by omega)];rw [Int.ediv_eq_zero_of_lt (by omega) h2];omega
theorem lj {e:EntM} {p:Bool} (h:aH e p=true):aV e.pte e.level=Cj p:=by
 simp only [aH,Bool.and_eq_true,beq_iff_eq] at h;exact h.2
theorem iw (t:TlbM) (e:EntM) (pick:Int) (p:Bool) (hv:aF t p=true) (hg:aH e p=true) (ht:0<=e.tag):aF (cU t e pick) p=true:=by
 unfold cU;split
 ·have hs:=eM hv;refine oz ?_ ?_
  ·simp only [ik,decide_eq_true_eq,List.length_set];exact hs
  ·intro j x hx;simp only [List.getElem?_set] at hx;split at hx
   ·rename_i hj;split at hx
    ·cases hx;subst hj;simp only [bL,Bool.or_eq_true,Bool.and_eq_true,beq_iff_eq];exact .inr ⟨hg,(zJ (pick:=pick) hv ht).symm⟩
    ·cases hx
   ·exact fx hv j x hx
 ·exact hv
theorem iW (t:TlbM) (f:FenceM) (p:Bool) (hv:aF t p=true):aF (eL t f) p=true:=by
 unfold eL;rw [if_pos (co hv)];have hs:=eM hv;refine oz ?_ ?_
 ·simp only [ik,decide_eq_true_eq,List.length_map];exact hs
 ·intro j x hx;simp only [List.getElem?_map,Option.map_eq_some_iff] at hx;obtain ⟨y,hy,rfl⟩:=hx;have:=fx hv j y hy;unfold gZ;split
  ·simp [bL,bC]
  ·exact this
end Go.Proofs.YthdgiakgepmabaaGreat
