import Derived.Test.YtpdddbobhndbjaaGreatPk04
import Derived.StillTailTactics
namespace Go.Proofs.YtpdddbobhndbjaaGreat
open Go.RowKit
set_option linter.unusedVariables false
set_option maxHeartbeats 6400000
set_option maxRecDepth 20000
theorem ut (a:Option Addr) (n cap:Nat) (sets ways:Int) (p:Bool) (w:World) (hl:n<=1048576) (hs: -9223372036854775808<=sets∧sets<=9223372036854775807) (hw: -9223372036854775808<=ways∧ways<=9223372036854775807)
 (h:¬((sets=1∨sets=2∨sets=4∨sets=8)∧1<=ways∧ways<=4∧(n:Int)=sets*ways)):
 Calls Tryz.prog 135 #[.agg #[.int .i64 sets,.int .i64 ways,.slice a n cap],.bool p] w fun e w'=>e=.returned (.bool false)∧Bw w w':=by
 by_cases h1:sets=1∨sets=2∨sets=4∨sets=8
 ·by_cases h2:ways<1
  ·rcases h1 with rfl | rfl | rfl | rfl;all_goals
    go_enter Tryz.func135,Tryz.ntmps135;go_wp2_with fail;go_ret;exact ⟨rfl,(Below.refl _ _).alloc nle _⟩
  by_cases h3:4<ways
  ·rcases h1 with rfl | rfl | rfl | rfl;all_goals
    go_enter Tryz.func135,Tryz.ntmps135;go_wp2_with fail;go_ret;exact ⟨rfl,(Below.refl _ _).alloc nle _⟩
  rcases h1 with rfl | rfl | rfl | rfl
  ·have h4:((n:Int) != ways)=true:=by rw [bne_iff_ne];omega
   clear h;go_enter Tryz.func135,Tryz.ntmps135;go_wp2_with fail;go_ret;exact ⟨rfl,(Below.refl _ _).alloc nle _⟩
  ·have h4:((n:Int) != 2*ways)=true:=by rw [bne_iff_ne];omega
   clear h;go_enter Tryz.func135,Tryz.ntmps135;go_wp2_with fail;go_ret;exact ⟨rfl,(Below.refl _ _).alloc nle _⟩
  ·have h4:((n:Int) != 4*ways)=true:=by rw [bne_iff_ne];omega
   clear h;go_enter Tryz.func135,Tryz.ntmps135;go_wp2_with fail;go_ret;exact ⟨rfl,(Below.refl _ _).alloc nle _⟩
  ·have h4:((n:Int) != 8*ways)=true:=by rw [bne_iff_ne];omega
   clear h;go_enter Tryz.func135,Tryz.ntmps135;go_wp2_with fail;go_ret;exact ⟨rfl,(Below.refl _ _).alloc nle _⟩
 ·have q1:(sets != 1)=true:=by rw [bne_iff_ne];omega
  have q2:(sets != 2)=true:=by rw [bne_iff_ne];omega
  have q4:(sets != 4)=true:=by rw [bne_iff_ne];omega
  have q8:(sets != 8)=true:=by rw [bne_iff_ne];omega
  clear h h1;go_enter Tryz.func135,Tryz.ntmps135;go_wp2_with fail;go_ret;exact ⟨rfl,(Below.refl _ _).alloc nle _⟩
theorem fp (v:Value) (t:TlbM) (p:Bool) (w:World) (h:TlbAt w v t):
 Calls Tryz.prog 135 #[v,.bool p] w fun e w'=>e=.returned (.bool (aQ t p))∧Bw w w':=by
 obtain ⟨a,cap,rfl,hr,he,hs,hw,hl,hlc,hcm,hnil,hsp⟩:=h;obtain ⟨sets,ways,es⟩:=t;simp only at hr he hs hw hl hlc hnil |-;by_cases hsh:(sets=1∨sets=2∨sets=4∨sets=8)∧1<=ways∧ways<=4∧(es.length:Int)=sets*ways
 ·have hv:aQ ⟨sets,ways,es⟩ p=fL ⟨sets,ways,es⟩ p 0 es:=by simp only [aQ,iU];rw [decide_eq_true hsh,Bool.true_and]
  rw [hv];obtain ⟨h1,h2,h3,h4⟩:=hsh;obtain ⟨b,off,rfl⟩:∃b off,a=some ⟨b,off,none⟩:=by
   rcases hr.2 with h0 | ⟨b,off,rfl,_,_⟩
   ·rw [h0] at h4;rcases h1 with rfl | rfl | rfl | rfl <;> simp at h4 <;> omega
   ·exact ⟨b,off,rfl⟩
  exact vV sets h1 b off cap ways es es.length p w hr he hl rfl h2 h3 h4
 ·have hv:aQ ⟨sets,ways,es⟩ p=false:=by simp only [aQ,iU];rw [decide_eq_false hsh,Bool.false_and]
  rw [hv];exact ut a es.length cap sets ways p w hl hs hw hsh
section
attribute [local go_sem ↓] Go.wp_at_zero Go.wp_at_succ
theorem TlbAt.keep {w w':World} {v:Value} {t:TlbM} (h:TlbAt w v t) (hb:Bw w w'):TlbAt w' v t:=by
 obtain ⟨a,cap,rfl,hr,r⟩:=h;exact ⟨a,cap,rfl,hr.keep hb,r⟩
def fK (t:TlbM):Bool:=aQ t true || aQ t false
def kR (x:EntM) (va asid:Int):Bool:=x.valid && (x.tag == fJ va x.level) && (x.glob || x.asid == asid)
theorem nI (v:Value) (t:TlbM) (w:World) (h:TlbAt w v t):
 Calls Tryz.prog 126 #[v] w fun e w'=>e=.returned (.bool (fK t))∧Bw w w':=by
 have HT:=hid h;obtain ⟨a,cap,rfl,_⟩:=h;have a1:=fF w #[.int .i64 t.sets,.int .i64 t.ways,.slice a t.es.length cap] 37;unfold fK;obtain ⟨p,hp⟩:∃p,aQ t true=p:=⟨_,rfl⟩;obtain ⟨q,hq⟩:∃q,aQ t false=q:=⟨_,rfl⟩;rw [hp,hq];have HP:=hid hp;have HQ:=hid hq;clear hp hq;go_enter Tryz.func126,Tryz.ntmps126;go_wp2_with fail;generalize w.alloc (Obj.cells #[.int .i64 t.sets,.int .i64 t.ways,.slice a t.es.length cap] 37)=v1 at a1 |-;obtain ⟨l1,c1,n1⟩:=a1;have c10:=c1 0;have c11:=c1 1;have c12:=c1 2;refine (fp _ t true v1 (HT.out.keep n1)).mono ?_;rw [HP.out];rintro e v2 ⟨rfl,n2⟩;have d10:=Below.cell2 n2 c10 l1;have d11:=Below.cell2 n2 c11 l1;have d12:=Below.cell2 n2 c12 l1;have n12:=bst n1 n2;clear c1 c10 c11 c12 n1 n2;cases p
 ·go_wp2_with fail;refine (fp _ t false v2 (HT.out.keep n12)).mono ?_;rw [HQ.out];rintro e v3 ⟨rfl,n3⟩;have n13:=bst n12 n3;clear d10 d11 d12 n3;go_wp2_with fail;go_ret;exact ⟨aE (by simp),n13⟩
 ·go_wp2_with fail;go_ret;exact ⟨aE (by simp),n12⟩
theorem xO (x:EntM) (va asid:Int) (w:World) (hx:eU x) (hlv:x.valid=true->0<=x.level∧x.level<=2) (hv0:0<=va) (hv1:va<=18446744073709551615):
 Calls Tryz.prog 136 #[mq x,.int .u64 va,.int .u64 asid] w fun e w'=>e=.returned (.bool (kR x va asid))∧Bw w w':=by
 obtain ⟨v,lv,tg,asd,gl,pt⟩:=x;unfold mq kR;simp only at hlv |-;have n1:=(Below.refl w.heap.size w).alloc nle (Obj.cells #[.bool v,.int .i64 lv,.int .u64 tg,.int .u64 asd,.bool gl,.int .u64 pt] 121);cases v
 ·go_enter Tryz.func136,Tryz.ntmps136;go_wp2_with fail;go_quiet (fail);go_wp2_with fail;go_ret;exact ⟨aE (by simp),below_drewN n1 nq⟩
 obtain ⟨hl0,hl2⟩:=hlv rfl;obtain ⟨tv,htv⟩:∃tv,fJ va lv=tv:=⟨_,rfl⟩;rw [htv];have HC:Hid (∀w:World,Calls Tryz.prog 142 #[.int .u64 va,.int .i64 lv] w fun e w'=>e=.returned (.int .u64 tv)∧∃n,w'=w.drewN n):=fun w=>by
  have:=rR va lv w hv0 hv1 hl0 hl2;rw [htv] at this;exact this
 clear htv;cases ht:(tg == tv)
 ·go_enter Tryz.func136,Tryz.ntmps136;go_wp2_with fail;go_quiet ((go_at_call 142;exact Calls.quiet_of (HC.out _)));go_wp2_with fail;go_ret;exact ⟨aE (by simp),below_drewN n1 nq⟩
 ·cases gl
  ·go_enter Tryz.func136,Tryz.ntmps136;go_wp2_with fail;go_quiet ((go_at_call 142;exact Calls.quiet_of (HC.out _)));go_wp2_with fail;go_ret;exact ⟨aE (by simp),below_drewN n1 nq⟩
  ·go_enter Tryz.func136,Tryz.ntmps136;go_wp2_with fail;go_quiet ((go_at_call 142;exact Calls.quiet_of (HC.out _)));go_wp2_with fail;go_ret;exact ⟨aE (by simp),below_drewN n1 nq⟩
end
section
attribute [local go_sem ↓] Go.wp_at_zero Go.wp_at_succ
def gW (va asid l:Int) (x:EntM):Bool:=x.level == l && kR x va asid
def dR (va asid l:Int):Nat->List EntM->Option (Nat × EntM)
 | _,[]=>none
 | i,e::r=>if gW va asid l e=true then some (i,e) else dR va asid l (i+1) r
def iq (l:Int):Option (Nat × EntM)->Option (Bool × Int × Int × Int)
 | none=>none
 | some (i,e)=>some (true,(i:Int),l,e.pte)
def ba (t:TlbM) (va asid:Int):Bool × Int × Int × Int:=
 if fK t=false then (false,0,0,0)
 else ((iq 0 (dR va asid 0 0 t.es)).or ((iq 1 (dR va asid 1 0 t.es)).or (iq 2 (dR va asid 2 0 t.es)))).getD (false,0,0,0)
theorem mC (va asid l:Int):∀(es:List EntM) (i:Nat),(∀(j:Nat) x,es[j]?=some x->gW va asid l x=false)->dR va asid l i es=none
 | [],i,h=>rfl
 | e::r,i,h=>by
  rw [dR,if_neg (by rw [h 0 e rfl];simp)];exact mC va asid l r (i+1) (fun j x hx=>h (j+1) x (by simpa using hx))
theorem mD (va asid l:Int):∀(es:List EntM) (i k:Nat) (x:EntM),es[k]?=some x->gW va asid l x=true->(∀j y,j<k->es[j]?=some y->gW va asid l y=false)->dR va asid l i es=some (i+k,x)
 | e::r,i,0,x,hx,hh,h=>by
  simp at hx;subst hx;rw [dR,if_pos hh];rfl
 | e::r,i,k+1,x,hx,hh,h=>by
  rw [dR,if_neg (by rw [h 0 e (by omega) rfl];simp),mD va asid l r (i+1) k x (by simpa using hx) hh (fun j y hj hy=>h (j+1) y (by omega) (by simpa using hy))];congr 2;omega
theorem lG (t:TlbM) (p:Bool):∀(es:List EntM) (i:Nat),fL t p i es=true->∀j x,es[j]?=some x->cy t p (i+j) x=true
 | e::r,i,h,0,x,hx=>by
  simp at hx;subst hx;simp only [fL,Bool.and_eq_true] at h;exact h.1
 | e::r,i,h,j+1,x,hx=>by
  simp only [fL,Bool.and_eq_true] at h;have:=lG t p r (i+1) h.2 j x (by simpa using hx);rw [show i+(j+1)=i+1+j by omega];exact this
theorem pR {t:TlbM} {p:Bool} {i:Nat} {x:EntM} (h:cy t p i x=true) (hv:x.valid=true):0<=x.level∧x.level<=2:=by
 simp only [cy,Bool.or_eq_true,Bool.and_eq_true] at h;rcases h with h | h
 ·rw [hv] at h;simp at h
 ·have:=h.1;simp only [aY,Bool.and_eq_true,decide_eq_true_eq] at this;exact ⟨this.1.1.1.1.1.2,this.1.1.1.1.2⟩
theorem dY {t:TlbM} (h:fK t=true) (j:Nat) (x:EntM) (hx:t.es[j]?=some x) (hv:x.valid=true):0<=x.level∧x.level<=2:=by
 simp only [fK,aQ,Bool.or_eq_true,Bool.and_eq_true] at h;rcases h with h | h
 ·exact pR (lG t true t.es 0 h.2 j x hx) hv
 ·exact pR (lG t false t.es 0 h.2 j x hx) hv
theorem yl (t:TlbM) (va asid:Int) (l k:Nat) (x:EntM) (he:fK t=true) (hl:l<=2) (hp:∀l':Nat,l'<l->dR va asid l' 0 t.es=none) (hf:dR va asid l 0 t.es=some (k,x)):
 ba t va asid=(true,(k:Int),(l:Int),x.pte):=by
 unfold ba;rw [if_neg (by rw [he];simp)];rcases (show l=0∨l=1∨l=2 by omega) with rfl | rfl | rfl
 ·have hf':dR va asid 0 0 t.es=some (k,x):=hf;rw [hf'];rfl
 ·have h0:dR va asid 0 0 t.es=none:=hp 0 (by omega);have hf':dR va asid 1 0 t.es=some (k,x):=hf;rw [h0,hf'];rfl
 ·have h0:dR va asid 0 0 t.es=none:=hp 0 (by omega);have h1:dR va asid 1 0 t.es=none:=hp 1 (by omega);have hf':dR va asid 2 0 t.es=some (k,x):=hf;rw [h0,h1,hf'];rfl
theorem tn (t:TlbM) (va asid:Int) (he:fK t=true) (hp:∀l':Nat,l'<3->dR va asid l' 0 t.es=none):ba t va asid=(false,0,0,0):=by
 have h0:dR va asid 0 0 t.es=none:=hp 0 (by omega);have h1:dR va asid 1 0 t.es=none:=hp 1 (by omega);have h2:dR va asid 2 0 t.es=none:=hp 2 (by omega);unfold ba;rw [if_neg (by rw [he];simp),h0,h1,h2];rfl
theorem fB (v:Value) (t:TlbM) (va asid:Int) (w:World) (h:TlbAt w v t) (hv0:0<=va) (hv1:va<=18446744073709551615):
 Calls Tryz.prog 114 #[v,.int .u64 va,.int .u64 asid] w fun e w'=>
  e=.returned (.agg #[.bool (ba t va asid).1,.int .i64 (ba t va asid).2.1,.int .i64 (ba t va asid).2.2.1,.int .u64 (ba t va asid).2.2.2])∧Bw w w':=by
 have HT:=hid h;obtain ⟨a,cap,rfl,hr,he,hs,hw,hl,hlc,hcm,hnil,hsp⟩:=h;obtain ⟨⟨x1,x2,x3,x4⟩,hX⟩:∃X,ba t va asid=X:=⟨_,rfl⟩;rw [hX];simp only;have HX:=hid hX;obtain ⟨eb,heb⟩:∃eb,fK t=eb:=⟨_,rfl⟩;have HEb:=hid heb;obtain ⟨n,hn⟩:∃n,t.es.length=n:=⟨_,rfl⟩;have HN:=hid hn;rw [hn] at hr hl hlc hnil |-;have HR:=hid hr;have HE:=hid he;have n1:=((Below.refl w.heap.size w).alloc nle (Obj.cells #[.int .i64 t.sets,.int .i64 t.ways,.slice a n cap] 37)).alloc (by simp) (Obj.cells #[.bool false,.int .i64 0,.int .i64 0,.int .u64 0] 217);have H1:Hid (((w.alloc (Obj.cells #[.int .i64 t.sets,.int .i64 t.ways,.slice a n cap] 37)).alloc (Obj.cells #[.bool false,.int .i64 0,.int .i64 0,.int .u64 0] 217)).heap[w.heap.size+1]?=some (.cells #[.bool false,.int .i64 0,.int .i64 0,.int .u64 0] 217 (0,0))):=by
  have:=heap_alloc_new (w.alloc (Obj.cells #[.int .i64 t.sets,.int .i64 t.ways,.slice a n cap] 37)) (Obj.cells #[.bool false,.int .i64 0,.int .i64 0,.int .u64 0] 217);simp only [World.size_alloc] at this;exact this
 have H2:Hid (((w.alloc (Obj.cells #[.int .i64 t.sets,.int .i64 t.ways,.slice a n cap] 37)).alloc (Obj.cells #[.bool false,.int .i64 0,.int .i64 0,.int .u64 0] 217)).cell? ⟨w.heap.size,2,none⟩=some (.slice a n cap)):=by
  show _=_;simp
 have l1:w.heap.size+1<((w.alloc (Obj.cells #[.int .i64 t.sets,.int .i64 t.ways,.slice a n cap] 37)).alloc (Obj.cells #[.bool false,.int .i64 0,.int .i64 0,.int .u64 0] 217)).heap.size:=by simp
 clear hX heb hn hr he hs hw hnil hsp;go_enter Tryz.func114,Tryz.ntmps114;go_wp2_with fail;generalize (w.alloc (Obj.cells #[.int .i64 t.sets,.int .i64 t.ways,.slice a n cap] 37)).alloc (Obj.cells #[.bool false,.int .i64 0,.int .i64 0,.int .u64 0] 217)=v1 at n1 H1 H2 l1 |-;have HTn:Hid (TlbAt w (.agg #[.int .i64 t.sets,.int .i64 t.ways,.slice a n cap]) t):=by have:=HT.out;rw [HN.out] at this;exact this
 refine (nI _ t v1 (HTn.out.keep n1)).mono ?_;rw [HEb.out];rintro e v2 ⟨rfl,n2⟩;have n12:=bst n1 n2;have K1:=hid (ae H1.out n2 l1);have K2:=Below.cell2 n2 H2.out (by omega);have l2:=Nat.lt_of_lt_of_le l1 n2.size;clear n1 n2 H1 H2 l1;cases eb
 ·obtain ⟨⟨d0,d1,d2,d3⟩,e0,e1,e2,e3⟩:=az K1.out;have hz:(x1,x2,x3,x4)=(false,0,0,0):=by rw [<-HX.out];unfold ba;rw [if_pos HEb.out]
  cases hz;go_wp2_with fail;exact bodyPost_ret (v:=.agg #[.bool false,.int .i64 0,.int .i64 0,.int .u64 0]) (by simp [results,Tryz.results114,go_sem,d0,d1,d2,d3]) rfl ⟨rfl,oZ n12 (by omega) _ _ _ _⟩
 ·go_wp2_with fail;go_loopw [7] (fun lev wr=>∃l:Nat,l<=3∧lev=.int .i64 l∧(∀l':Nat,l'<l->dR va asid l' 0 t.es=none)∧Bw v2 wr) (fun lev _=>3-(intOf lev).toNat)
  case atStart=>exact ⟨0,by omega,rfl,fun l' h=>absurd h (by omega),Below.refl _ _⟩
  case round=>
   obtain ⟨l,hl3,rfl,hprev,hb⟩:=hrel;have HPv:=hid hprev;clear hprev;by_cases hlt:l<=2
   ·have hlt':decide ((l:Int)<=2)=true:=by simp;omega
    go_wp2_with fail;go_loopw [8] (fun i wq=>∃k:Nat,k<=n∧i=.int .i64 k∧(∀j x,j<k->t.es[j]?=some x->gW va asid l x=false)∧Bw v2 wq) (fun i _=>n-(intOf i).toNat)
    case atStart=>exact ⟨0,Nat.zero_le _,rfl,fun j x hj=>absurd hj (by omega),hb⟩
    case round=>
     obtain ⟨k,hk,rfl,hall,hbq⟩:=hrel;have HA:=hid hall;clear hall hb;have d12:=Below.cell2 hbq K2 (by omega);have l3:w.heap.size+1<wr.heap.size:=Nat.lt_of_lt_of_le l2 hbq.size;have n1q:=bst n12 hbq;by_cases hkn:k<n
     ·have hx:∃x:EntM,t.es[k]?=some x:=⟨_,List.getElem?_eq_getElem (by have:=HN.out;omega)⟩;obtain ⟨⟨v,lv,tg,asd,gl,pt⟩,hx⟩:=hx;have hok:eU ⟨v,lv,tg,asd,gl,pt⟩:=HE.out _ (List.mem_of_getElem? hx);have hlv:=dY HEb.out k _ hx;obtain ⟨b,off,rfl⟩:∃b off,a=some ⟨b,off,none⟩:=by
       rcases HR.out.2 with h0 | ⟨b,off,rfl,_,_⟩
       ·omega
       ·exact ⟨b,off,rfl⟩
      have HRr:=RowC.keep HR.out n1q;have g0:wr.cell? ⟨b,off+k*6,none⟩=some (.bool v):=eu HRr HN.out k _ hx 0 _ (by omega) rfl;have g1:wr.cell? ⟨b,off+k*6+1,none⟩=some (.int .i64 lv):=eu HRr HN.out k _ hx 1 _ (by omega) rfl;have g2:wr.cell? ⟨b,off+k*6+2,none⟩=some (.int .u64 tg):=eu HRr HN.out k _ hx 2 _ (by omega) rfl;have g3:wr.cell? ⟨b,off+k*6+3,none⟩=some (.int .u64 asd):=eu HRr HN.out k _ hx 3 _ (by omega) rfl;have g4:wr.cell? ⟨b,off+k*6+4,none⟩=some (.bool gl):=eu HRr HN.out k _ hx 4 _ (by omega) rfl;have g5:wr.cell? ⟨b,off+k*6+5,none⟩=some (.int .u64 pt):=eu HRr HN.out k _ hx 5 _ (by omega) rfl;have HXk:Hid (t.es[k]?=some ⟨v,lv,tg,asd,gl,pt⟩):=hx;have HLv:Hid (v=true->0<=lv∧lv<=2):=hlv;have HPt:Hid (gW va asid l ⟨v,lv,tg,asd,gl,pt⟩=false->∀j x,j<k+1->t.es[j]?=some x->gW va asid l x=false):=fun h j x hj hx'=>by
       by_cases e:j=k
       ·subst e;rw [hx] at hx';cases hx';exact h
       ·exact HA.out j x (by omega) hx'
      clear hx HRr hlv;obtain ⟨fv,hfv⟩:∃fv,kR ⟨v,lv,tg,asd,gl,pt⟩ va asid=fv:=⟨_,rfl⟩;have HF:Hid (kR ⟨v,lv,tg,asd,gl,pt⟩ va asid=fv):=hfv;clear hfv;cases hq:(lv == (l:Int))
      ·go_wp2_with fail;go_roundw
       case rel=>exact ⟨k+1,by omega,by go_num,HPt.out (by simp [gW,hq]),hbq⟩
       case measure=>simp [intOf];omega
      ·have hq':lv=(l:Int):=by simpa using hq
       subst hq';clear hq;go_wp2_with fail;refine (xO ⟨v,(l:Int),tg,asd,gl,pt⟩ va asid wr hok HLv.out hv0 hv1).mono ?_;rw [HF.out];rintro e v5 ⟨rfl,n5⟩;have hb5:=bst hbq n5;have n15:=bst n1q n5;have p5:v5.cell? ⟨b,off+k*6+5,none⟩=some (.int .u64 pt):=Below.cell2 n5 g5 (by
        rcases HR.out.2 with h0 | ⟨b',off',e,hlt',_⟩
        ·omega
        ·cases e;exact Nat.lt_of_lt_of_le hlt' n1q.size)
       have p12:=Below.cell2 n5 d12 (by omega);obtain ⟨⟨d0,d1,d2,d3⟩,e0,e1,e2,e3⟩:=az (ae K1.out hb5 l2);clear g0 g1 g2 g3 g4 g5 d12 n5;cases fv
       ·clear d0 d1 d2 d3 e0 e1 e2 e3 p5;go_wp2_with fail;go_roundw
        case rel=>exact ⟨k+1,by omega,by go_num,HPt.out (by simp [gW,HF.out]),hb5⟩
        case measure=>simp [intOf];omega
       ·have hh:gW va asid l ⟨v,(l:Int),tg,asd,gl,pt⟩=true:=by simp [gW,HF.out]
        have hfind:=mD va asid l t.es 0 k _ HXk.out hh HA.out;have HV:Hid ((x1,x2,x3,x4)=(true,(k:Int),(l:Int),pt)):=by
         show _=_;rw [<-HX.out];exact yl t va asid l k _ HEb.out hlt HPv.out (by rw [hfind,Nat.zero_add])
        clear hh hfind;have hV:=HV.out;cases hV;go_wp2_with fail;exact bodyPost_ret (v:=.agg #[.bool true,.int .i64 k,.int .i64 l,.int .u64 x4]) (by simp [results,Tryz.results114,go_sem,d0,d1,d2,d3]) rfl ⟨rfl,oZ n15 (by omega) _ _ _ _⟩
     ·have hkn':k=n:=by omega
      have HF:=hid (mC va asid l t.es 0 (fun j x hx=>HA.out j x (by have h1:=(List.getElem?_eq_some_iff.1 hx).1;have h2:=HN.out;omega) hx));go_wp2_with fail;go_roundw
      case rel=>exact ⟨l+1,by omega,by go_num,fun l' h=>by
       by_cases e:l'=l
       ·subst e;exact HF.out
       ·exact HPv.out l' (by omega),hbq⟩
      case measure=>simp [intOf];omega
   ·obtain ⟨⟨d0,d1,d2,d3⟩,e0,e1,e2,e3⟩:=az (ae K1.out hb l2);have n14:=bst n12 hb;have hz:(x1,x2,x3,x4)=(false,0,0,0):=by
     rw [<-HX.out];exact tn t va asid HEb.out (fun l' h=>HPv.out l' (by omega))
    cases hz;clear K2;go_wp2_with fail;exact bodyPost_ret (v:=.agg #[.bool false,.int .i64 0,.int .i64 0,.int .u64 0]) (by simp [results,Tryz.results114,go_sem,d0,d1,d2,d3]) rfl ⟨rfl,oZ n14 (by omega) _ _ _ _⟩
end
structure FenceM where
 hasVa:Bool
 va:Int
 hasAsid:Bool
 asid:Int
def il (f:FenceM) (level tag asid:Int) (glob:Bool):Bool:=
 !(f.hasVa && (!du f.va || tag != fJ f.va level)) && (!f.hasAsid || (!glob && asid == f.asid))
def cj (f:FenceM) (e:EntM):EntM:=if (e.valid && il f e.level e.tag e.asid e.glob)=true then cK else e
def lk (es:List EntM) (first:Nat):Nat->Nat->Option Nat
 | _,0=>none
 | w,left+1=>if (es[first+w]?.getD cK).valid=false then some w else lk es first (w+1) left
structure KM where
 i:TlbM
 d:TlbM
 p:TlbM
def ew:TlbM:=⟨0,0,[]⟩
def k0M:KM:=⟨ew,ew,ew⟩
def bW (k:KM):Bool:=aQ k.i false && aQ k.d false && aQ k.p true
def eH (level va satp pte:Int):EntM:=⟨true,level,fJ va level,aM satp,bR pte 32,pte⟩
def eI (t:TlbM) (f:FenceM):TlbM:=if fK t=true then ⟨t.sets,t.ways,t.es.map (cj f)⟩ else t
def ki (t:TlbM) (e:EntM):Bool:=(aQ t true && aY e true) || (aQ t false && aY e false)
def eY (t:TlbM) (e:EntM):Nat:=(e.tag%t.sets*t.ways).toNat
def jt (t:TlbM) (e:EntM) (pick:Int):Nat:=(lk t.es (eY t e) 0 t.ways.toNat).getD (pick%t.ways).toNat
def dg (t:TlbM) (e:EntM) (pick:Int):TlbM:=
 if ki t e=true∧0<=pick∧pick<=255 then ⟨t.sets,t.ways,t.es.set (eY t e+jt t e pick) e⟩ else t
def cG (va satp pick:Int):List dQ->TlbM->TlbM
 | [],p=>p
 | r::rs,p=>cG va satp pick rs (if bC r.2.2 r.1=1 then dg p (eH r.1 va satp r.2.2) pick else p)
def bj (zs:List Int) (satp va:Int) (up:Bool × Int × Int × Int):Int × Int × Int × List dQ:=
 if up.1=true then cQ zs va (up.2.2.1-1).toNat (dG up.2.2.2) else dv zs satp va
def sX (k:KM) (kind:Int) (t:TlbM):KM:=if kind=0 then ⟨t,k.d,k.p⟩ else ⟨k.i,t,k.p⟩
def eQ (k:KM) (kind:Int):TlbM:=if kind=0 then k.i else k.d
def cD (zs:List Int) (mode:Int) (sum mxr:Bool) (satp:Int) (k:KM) (kind va pick:Int):(Int × Int) × KM:=
 if bW k=false∨kind<0∨2<kind∨mode<0∨2<mode∨pick<0∨255<pick then ((63,0),k0M)
 else if onM mode satp=false then ((0,va),k)
 else if du va=false then ((eA kind,0),k)
 else if (ba (eQ k kind) va (aM satp)).1=true then (eV (ba (eQ k kind) va (aM satp)).2.2.2 (ba (eQ k kind) va (aM satp)).2.2.1 mode sum mxr kind va,k)
 else
  let r:=bj zs satp va (ba k.p va (aM satp))
  let a:=cV r mode sum mxr kind va
  let k':KM:=⟨k.i,k.d,cG va satp pick r.2.2.2 k.p⟩
  (a,if a.1=0 then sX k' kind (dg (eQ k kind) (eH r.2.1 va satp r.2.2.1) pick) else k')
theorem fl {t:TlbM} {p:Bool} (h:aQ t p=true):(t.sets=1∨t.sets=2∨t.sets=4∨t.sets=8)∧1<=t.ways∧t.ways<=4∧(t.es.length:Int)=t.sets*t.ways:=by
 simp only [aQ,Bool.and_eq_true,iU,decide_eq_true_eq] at h;exact h.1
theorem jP {t:TlbM} {p:Bool} (h:aQ t p=true) (j:Nat) (x:EntM) (hx:t.es[j]?=some x):cy t p j x=true:=by
 simp only [aQ,Bool.and_eq_true] at h;have:=lG t p t.es 0 h.2 j x hx;simpa using this
theorem si {t:TlbM} {p:Bool} (h:iU t=true) (hp:∀(j:Nat) x,t.es[j]?=some x->cy t p j x=true):aQ t p=true:=by
 simp only [aQ,Bool.and_eq_true];exact ⟨h,fM t p t.es 0 (fun j x hx=>by simpa using hp j x hx)⟩
theorem dM {t:TlbM} {p:Bool} (h:aQ t p=true):fK t=true:=by
 cases p <;> simp [fK,h]
theorem wJ (es:List EntM) (first:Nat):∀(left w r:Nat),lk es first w left=some r->w<=r∧r<w+left
 | 0,w,r,h=>by simp [lk] at h
 | left+1,w,r,h=>by
  rw [lk] at h;split at h
  ·cases h;omega
  ·have:=wJ es first left (w+1) r h
   omega
theorem yL (t:TlbM) (e:EntM) (pick:Int) (hw:1<=t.ways) (hw':t.ways<=4):(jt t e pick:Int)<t.ways:=by
 unfold jt;cases h:lk t.es (eY t e) 0 t.ways.toNat with
 | none=>
  simp only [Option.getD_none];have h1:0<=pick%t.ways:=Int.emod_nonneg _ (by omega);have h2:pick%t.ways<t.ways:=Int.emod_lt_of_pos _ (by omega);omega
 | some r=>
  simp only [Option.getD_some];have:=wJ _ _ _ _ _ h;omega
theorem sj {t:TlbM} {e:EntM} (ht:0<=e.tag) (hs:t.sets=1∨t.sets=2∨t.sets=4∨t.sets=8) (hw:1<=t.ways):(eY t e:Int)=e.tag%t.sets*t.ways:=by
 unfold eY;have:0<=e.tag%t.sets:=Int.emod_nonneg _ (by omega);have:=Int.mul_nonneg this (by omega:0<=t.ways);omega
theorem Dm {t:TlbM} {p:Bool} {e:EntM} {pick:Int} (hv:aQ t p=true) (ht:0<=e.tag):eY t e+jt t e pick<t.es.length:=by
 obtain ⟨hs,hw,hw',hl⟩:=fl hv;have h1:=sj (e:=e) ht hs hw;have h2:=yL t e pick hw hw';have h3:e.tag%t.sets<t.sets:=Int.emod_lt_of_pos _ (by omega);have h4:0<=e.tag%t.sets:=Int.emod_nonneg _ (by omega);have h5:(e.tag%t.sets+1)*t.ways<=t.sets*t.ways:=Int.mul_le_mul_of_nonneg_right (by omega) (by omega);rw [Int.add_mul] at h5;omega
theorem Cw {t:TlbM} {p:Bool} {e:EntM} {pick:Int} (hv:aQ t p=true) (ht:0<=e.tag):((eY t e+jt t e pick:Nat):Int)/t.ways=e.tag%t.sets:=by
 obtain ⟨hs,hw,hw',hl⟩:=fl hv;have h1:=sj (e:=e) ht hs hw;have h2:=yL t e pick hw hw';rw [show ((eY t e+jt t e pick:Nat):Int)=(jt t e pick:Int)+(e.tag%t.sets)*t.ways by omega,Int.add_mul_ediv_right _ _ (by omega)];rw [Int.ediv_eq_zero_of_lt (by omega) h2];omega
theorem zN {e:EntM} {p:Bool} (h:aY e p=true):bC e.pte e.level=iu p:=by
 simp only [aY,Bool.and_eq_true,beq_iff_eq] at h;exact h.2
theorem kj (t:TlbM) (e:EntM) (pick:Int) (p:Bool) (hv:aQ t p=true) (hg:aY e p=true) (ht:0<=e.tag):aQ (dg t e pick) p=true:=by
 unfold dg;split
 ·have hs:=fl hv;refine si ?_ ?_
  ·simp only [iU,decide_eq_true_eq,List.length_set];exact hs
  ·intro j x hx;simp only [List.getElem?_set] at hx;split at hx
   ·rename_i hj;split at hx
    ·cases hx;subst hj;simp only [cy,Bool.or_eq_true,Bool.and_eq_true,beq_iff_eq];exact .inr ⟨hg,(Cw (pick:=pick) hv ht).symm⟩
    ·cases hx
   ·exact jP hv j x hx
 ·exact hv
theorem lm (t:TlbM) (f:FenceM) (p:Bool) (hv:aQ t p=true):aQ (eI t f) p=true:=by
 unfold eI;rw [if_pos (dM hv)];have hs:=fl hv;refine si ?_ ?_
 ·simp only [iU,decide_eq_true_eq,List.length_map];exact hs
 ·intro j x hx;simp only [List.getElem?_map,Option.map_eq_some_iff] at hx;obtain ⟨y,hy,rfl⟩:=hx;have:=jP hv j y hy;unfold cj;split
  ·simp [cy,cK]
  ·exact this
theorem aA {v:World} {p:Nat} {T:TypeId} {a b c:Value} (h:v.heap[p]?=some (.cells #[a,b,c] T (0,0))):
 (v.cell? ⟨p,0,none⟩=some a∧v.cell? ⟨p,1,none⟩=some b∧v.cell? ⟨p,2,none⟩=some c)∧v.frozen? ⟨p,0,none⟩=false∧v.frozen? ⟨p,1,none⟩=false∧v.frozen? ⟨p,2,none⟩=false:=by
 simp [World.cell?,World.frozen?,h]
theorem CK {v:World} {p:Nat} {T:TypeId} {a b c u:Value} (h:v.heap[p]?=some (.cells #[a,b,c] T (0,0))):(v.setCell ⟨p,0,none⟩ u).heap[p]?=some (.cells #[u,b,c] T (0,0)):=by
 simp [World.setCell,Array.getElem?_modify,h]
theorem CL {v:World} {p:Nat} {T:TypeId} {a b c u:Value} (h:v.heap[p]?=some (.cells #[a,b,c] T (0,0))):(v.setCell ⟨p,2,none⟩ u).heap[p]?=some (.cells #[a,b,u] T (0,0)):=by
 simp [World.setCell,Array.getElem?_modify,h]
theorem gb3 (v:World) (g:Nat) (x y z:Value):v.grownBy (((v.setCell ⟨g,0,none⟩ x).setCell ⟨g,1,none⟩ y).setCell ⟨g,2,none⟩ z) (some g):=
 ak (ak (ak (aq v (some g)) 0 x) 1 y) 2 z
theorem fU {B:Nat} {a w:World} {g:Nat} (h:Below B a w) (hg:B<=g) (x y z:Value):Below B a (((w.setCell ⟨g,0,none⟩ x).setCell ⟨g,1,none⟩ y).setCell ⟨g,2,none⟩ z):=
 ((h.setCell (p:=⟨g,0,none⟩) hg x).setCell (p:=⟨g,1,none⟩) hg y).setCell (p:=⟨g,2,none⟩) hg z
theorem aP {e:TypeId} {size:Nat} {w:World} {base base' n:Nat} {v:Value} {cs:List Value} (h:w.ownsRow base e size v n cs) (hb:base'<=base):w.ownsRow base' e size v n cs:=by
 obtain ⟨h1,h2⟩:=h;refine ⟨h1,?_⟩;rcases h2 with h2 | ⟨g,cap,cur,h2,hb',r⟩
 ·exact .inl h2
 ·exact .inr ⟨g,cap,cur,h2,by omega,r⟩
theorem aI {e:TypeId} {size:Nat} {w w':World} {base n r:Nat} {v:Value} {cs:List Value} (h:w.ownsRow base e size v n cs) (hg:w.grownBy w' (some r)) (hr:r<base):w'.ownsRow base e size v n cs:=by
 refine h.kept hg ?_;rcases h.2 with ⟨rfl,_⟩ | ⟨g,cap,cur,rfl,hb',_⟩
 ·exact .inl rfl
 ·refine .inr ?_;simp [Value.ownBlock];omega
theorem aj {e:TypeId} {size:Nat} {w w':World} {base n:Nat} {v:Value} {cs:List Value} (h:w.ownsRow base e size v n cs) (hb:Bw w w'):w'.ownsRow base e size v n cs:=by
 obtain ⟨h1,h2⟩:=h;refine ⟨h1,?_⟩;rcases h2 with h2 | ⟨g,cap,cur,h2,hb',hg,r⟩
 ·exact .inl h2
 ·refine .inr ⟨g,cap,cur,h2,hb',?_,r⟩;exact ae hg hb (hpl hg)
theorem qf {P:Program} (w:World) {o:Oper} {a:Act} {K:Act->World->Prop} {Q:Exit->Act->World->Prop} (s x:Operand) (t:TypeId)
 (ho:o.op=.call { callee:=.builtin .append,args:=#[s,x],argTypes:=#[t,t] }) (e:TypeId) (ht:P.underlying t=some (.slice e)) (z:Value) (size bytes:Nat)
 (hi:(P.info? e).map (fun i=>(i.zero,i.size,i.bytes))=some (some z,size,bytes)) (hzs:z.cells.size=size) (hsz:0<size)
 (base n:Nat) (v:Value) (cs:List Value) (hs:a.eval s=v) (hown:w.ownsRow base e size v n cs)
 (b off m c:Nat) (ys:List Value) (hx:a.eval x=.slice (some ⟨b,off,none⟩) m c) (hm:0<m) (hy:RowC w (some ⟨b,off,none⟩) m size ys) (h1:∀u∈ys,u.oneCell'=true)
 (hbd:(n+m)*bytes<=140737488355328) (hbd':n+m<=9223372036854775807)
 (hbw:base<=w.heap.size) (B:Nat) (W:World) (hb:Below B W w) (hB:B<=base)
 (h:∀g' cap' w',w'.ownsRow base e size (.slice (some ⟨g',0,none⟩) (n+m) cap') (n+m) (cs++ys)->Below B W w'->K (a.put o.dst (.slice (some ⟨g',0,none⟩) (n+m) cap')) w'):o.wp P a w K Q:=by
 obtain ⟨i0,hi,hz0,hz1,hz2⟩:=info_parts hi;refine wp_append_own w s x t ho base e i0 z size bytes ht hi hz0 hz1 hz2 hzs hsz v n _ hs hown ⟨b,off,none⟩ m c ys hx hy.1 (qC hy) h1 (by unfold maxLen;omega) hbd (by omega) ?_;intro v' w' h1 h2 h3;have hbl:=hb.grown h2 (by omega) (fun k hk=>by have:=(hown.lt k hk).1;omega);rcases h1.2 with ⟨e1,e2⟩ | ⟨g,cap,cur,e1,r⟩
 ·omega
 ·subst e1;exact h g cap w' h1 hbl
theorem ld {P:Program} (w:World) {ops:Array Oper} {rest:List Oper} {o:Oper} {a:Act} {Q:Exit->Act->World->Prop} (hgd:o.guard=none) (s x:Operand) (t:TypeId)
 (ho:o.op=.call { callee:=.builtin .append,args:=#[s,x],argTypes:=#[t,t] }) (e:TypeId) (ht:P.underlying t=some (.slice e)) (z:Value) (size bytes:Nat)
 (hi:(P.info? e).map (fun i=>(i.zero,i.size,i.bytes))=some (some z,size,bytes)) (hzs:z.cells.size=size) (hsz:0<size)
 (base n:Nat) (v:Value) (cs:List Value) (hs:a.eval s=v) (hown:w.ownsRow base e size v n cs)
 (b off m c:Nat) (ys:List Value) (hx:a.eval x=.slice (some ⟨b,off,none⟩) m c) (hm:0<m) (hy:RowC w (some ⟨b,off,none⟩) m size ys) (h1:∀u∈ys,u.oneCell'=true)
 (hbd:(n+m)*bytes<=140737488355328) (hbd':n+m<=9223372036854775807)
 (hbw:base<=w.heap.size) (B:Nat) (W:World) (hb:Below B W w) (hB:B<=base)
 (h:∀g' cap' w',w'.ownsRow base e size (.slice (some ⟨g',0,none⟩) (n+m) cap') (n+m) (cs++ys)->Below B W w'->wpList P ops Q rest (a.put o.dst (.slice (some ⟨g',0,none⟩) (n+m) cap')) w'):wpList P ops Q (o::rest) a w:=
 wpList_plain hgd fun _ hK=>qf w s x t ho e ht z size bytes hi hzs hsz base n v cs hs hown b off m c ys hx hm hy h1 hbd hbd' hbw B W hb hB fun g' cap' w' h2 h3=>hK _ _ (h g' cap' w' h2 h3)
theorem oy {e:TypeId} {size:Nat} {w:World} {base n:Nat} {v:Value} {cs:List Value} (h:w.ownsRow base e size v n cs):w.drew.ownsRow base e size v n cs:=h
def CurAt (e:TypeId) (w:World) (g m:Nat) (cs:List Value):Prop:=cs.length=m∧∃cur,w.heap[g]?=some (.cells cur e (0,0))∧cur.toList.take m=cs
theorem CurAt.lt {e:TypeId} {w:World} {g m:Nat} {cs:List Value} (h:CurAt e w g m cs):g<w.heap.size:=by
 obtain ⟨_,cur,h2,_⟩:=h;exact (hpl h2)
theorem CurAt.cell {e:TypeId} {w:World} {g m:Nat} {cs:List Value} (h:CurAt e w g m cs) (j:Nat) (u:Value) (hj:cs[j]?=some u):w.cell? ⟨g,j,none⟩=some u:=by
 obtain ⟨h1,cur,h2,h3⟩:=h;subst h3;rw [List.getElem?_take] at hj;split at hj
 ·simp only [World.cell?,h2];simpa using hj
 ·cases hj
theorem CurAt.free {e:TypeId} {w:World} {g m:Nat} {cs:List Value} (h:CurAt e w g m cs) (j:Nat):w.frozen? ⟨g,j,none⟩=false:=by
 obtain ⟨h1,cur,h2,h3⟩:=h;simp [World.frozen?,h2]
theorem CurAt.store {e:TypeId} {w:World} {g m:Nat} {cs:List Value} (h:CurAt e w g m cs) (j:Nat) (u:Value):CurAt e (w.setCell ⟨g,j,none⟩ u) g m (cs.set j u):=by
 obtain ⟨h1,cur,h2,h3⟩:=h;refine ⟨by simpa using h1,cur.setIfInBounds j u,by simp [World.setCell,Array.getElem?_modify,h2],?_⟩;subst h3;rw [Array.toList_setIfInBounds,List.take_set]
theorem CurAt.gb {e:TypeId} {w w':World} {g m r:Nat} {cs:List Value} (h:CurAt e w g m cs) (hg:w.grownBy w' (some r)) (hne:g≠r):CurAt e w' g m cs:=by
 obtain ⟨h1,cur,h2,h3⟩:=h;exact ⟨h1,cur,aC h2 hg hne,h3⟩
theorem CurAt.of_own {e:TypeId} {size:Nat} {w:World} {base g n cap:Nat} {cs:List Value} (h:w.ownsRow base e size (.slice (some ⟨g,0,none⟩) n cap) n cs):CurAt e w g (n*size) cs∧base<=g:=by
 obtain ⟨h1,h2⟩:=h;rcases h2 with ⟨h2,_⟩ | ⟨g',cap',cur,h2,hb,hg,_,_,_,ht⟩
 ·cases h2
 ·cases h2;exact ⟨⟨h1,cur,hg,ht⟩,hb⟩
theorem ef {e:TypeId} {size:Nat} {w:World} {base n:Nat} {a:Option Addr} {cap:Nat} {cs:List Value} (h:w.ownsRow base e size (.slice a n cap) n cs):RowC w a n size cs:=by
 cases a with
 | none=>
  obtain ⟨h1,h2⟩:=h;rcases h2 with ⟨_,h2⟩ | ⟨g',cap',cur,h2,_⟩
  ·subst h2;exact ⟨h1,.inl rfl⟩
  ·cases h2
 | some q=>
  have hq:q=⟨q.block,0,none⟩:=by
   obtain ⟨h1,h2⟩:=h;rcases h2 with ⟨h2,_⟩ | ⟨g',cap',cur,h2,_⟩
   ·cases h2
   ·cases h2;rfl
  rw [hq] at h |-;have:=CurAt.of_own h;refine ⟨h.1,.inr ⟨q.block,0,rfl,this.1.lt,fun i u hu=>?_⟩⟩;rw [Nat.zero_add];exact this.1.cell i u hu
theorem bZ {e:TypeId} {size:Nat} {w:World} {base n cap:Nat} {q:Addr} {cs:List Value} (h:w.ownsRow base e size (.slice (some q) n cap) n cs):q=⟨q.block,0,none⟩∧base<=q.block∧q.block<w.heap.size:=by
 rcases h.2 with ⟨h2,_⟩ | ⟨g',cap',cur,h2,hb,hg,_⟩
 ·cases h2
 ·cases h2;exact ⟨rfl,hb,(hpl hg)⟩
theorem dJ {a b c:World} {r:Option Nat} (h:a.grownBy b r) (k:b.grownBy c r):a.grownBy c r:=
 ⟨k.os.trans h.os,k.tape.trans h.tape,k.output.trans h.output,Nat.le_trans h.size k.size,fun i hi hn=>(k.block i (Nat.lt_of_lt_of_le hi h.size) hn).trans (h.block i hi hn)⟩
theorem ah {w w':World} {b:Nat} {o:Obj} (h:Hid (w.heap[b]?=some o)) (n:Bw w w'):Hid (w'.heap[b]?=some o):=ae h.out n (hpl h.out)
theorem aF {e:TypeId} {size:Nat} {w:World} {base g n cap:Nat} {cs:List Value} (h:w.ownsRow base e size (.slice (some ⟨g,0,none⟩) n cap) n cs) (j:Nat) (u:Value):
 (w.setCell ⟨g,j,none⟩ u).ownsRow base e size (.slice (some ⟨g,0,none⟩) n cap) n (cs.set j u):=by
 obtain ⟨h1,h2⟩:=h;refine ⟨by simpa using h1,?_⟩;rcases h2 with ⟨h2,_⟩ | ⟨g',cap',cur,h2,hb,hg,hc1,hc2,hc3,ht⟩
 ·cases h2
 ·cases h2;refine .inr ⟨g,cap,cur.setIfInBounds j u,rfl,hb,by simp [World.setCell,Array.getElem?_modify,hg],hc1,hc2,by simpa using hc3,?_⟩;subst ht;rw [Array.toList_setIfInBounds,List.take_set]
theorem aB {e:TypeId} {size:Nat} {w:World} {base g n cap:Nat} {cs:List Value} (h:w.ownsRow base e size (.slice (some ⟨g,0,none⟩) n cap) n cs) (j:Nat) (u:Value) (hj:cs[j]?=some u):w.cell? ⟨g,j,none⟩=some u:=
 (CurAt.of_own h).1.cell j u hj
theorem aO {e:TypeId} {size:Nat} {w:World} {base g n cap:Nat} {cs:List Value} (h:w.ownsRow base e size (.slice (some ⟨g,0,none⟩) n cap) n cs) (j:Nat):w.frozen? ⟨g,j,none⟩=false:=
 (CurAt.of_own h).1.free j
theorem fE {a b c:World} {r:Option Nat} (h:a.grownBy b r) (k:Bw b c):a.grownBy c r:=
 ⟨k.os.trans h.os,k.tape.trans h.tape,k.output.trans h.output,Nat.le_trans h.size k.size,fun i hi hn=>(k.block i (Nat.lt_of_lt_of_le hi h.size)).trans (h.block i hi hn)⟩
theorem oh {a b:World} {r g o:Nat} {x:Option Value} (h:a.grownBy b (some r)) (hc:a.cell? ⟨g,o,none⟩=x) (hg:g<a.heap.size) (hne:g≠r):b.cell? ⟨g,o,none⟩=x:=
 (World.cell?_of_block (h.block g hg (by simpa using hne))).trans hc
theorem AS {a b:World} {r n size:Nat} {q:Option Addr} {cs:List Value} (h:RowC a q n size cs) (hg:a.grownBy b (some r)) (hr:a.heap.size<=r∨∀x,q=some x->x.block≠r):RowC b q n size cs:=by
 obtain ⟨h1,h2⟩:=h;refine ⟨h1,?_⟩;rcases h2 with h2 | ⟨bk,off,rfl,hlt,hc⟩
 ·exact .inl h2
 ·refine .inr ⟨bk,off,rfl,Nat.lt_of_lt_of_le hlt hg.size,fun i u hu=>?_⟩;exact oh hg (hc i u hu) hlt (by
   rcases hr with hr | hr
   ·omega
   ·exact hr _ rfl)
theorem dl {P:Program} {id:Nat} {Q:Exit->Act->World->Prop} {a:Act} {w:World} {l:List Oper} (n:Nat) (hm:P.follows .mixedOrders=true) (hB:Region.lexTailB .any l.toArray n=true)
 (h:wpStill P l.toArray w.drew (fun a'=>wpList P l.toArray Q (l.drop n) a' w.drew) (l.take n) a):(Code.region id l.toArray true).wp P Q a w:=
 wp_region_still_tail n hm hB h
end Go.Proofs.YtpdddbobhndbjaaGreat
