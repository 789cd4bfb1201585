import Derived.Test.YtjdmhibnhpdjaaaGreatPk03
import Derived.Deep.DeepCutAuto
namespace Go.Proofs.YtjdmhibnhpdjaaaGreat
open Go.RowKit
set_option linter.unusedVariables false
set_option maxHeartbeats 6400000
set_option maxRecDepth 20000
theorem xr (a:Option Addr) (n cap:Nat) (sets ways:Int) (p:Bool) (w:World) (hl:n<=1048576) (hs: -9223372036854775808<=sets∧sets<=9223372036854775807) (hw: -9223372036854775808<=ways∧ways<=9223372036854775807)
 (h:¬((sets=1∨sets=2∨sets=4∨sets=8)∧1<=ways∧ways<=4∧(n:Int)=sets*ways)):
 Calls Tryz.prog 147 #[.agg #[VI sets,VI ways,.slice a n cap],.bool p] w fun e w'=>e=.returned (.bool false)∧Bw w w':=by
 by_cases h1:sets=1∨sets=2∨sets=4∨sets=8
 ·by_cases h2:ways<1
  ·rcases h1 with rfl | rfl | rfl | rfl;all_goals
    go_enter Tryz.func147,Tryz.ntmps147;go_wp2;go_ret;exact ⟨rfl,(brf).alloc nle _⟩
  by_cases h3:4<ways
  ·rcases h1 with rfl | rfl | rfl | rfl;all_goals
    go_enter Tryz.func147,Tryz.ntmps147;go_wp2;go_ret;exact ⟨rfl,(brf).alloc nle _⟩
  rcases h1 with rfl | rfl | rfl | rfl
  ·have h4:((n:Int) != ways)=true:=by rw [bne_iff_ne];omega
   clear h;go_enter Tryz.func147,Tryz.ntmps147;go_wp2;go_ret;exact ⟨rfl,(brf).alloc nle _⟩
  ·have h4:((n:Int) != 2*ways)=true:=by rw [bne_iff_ne];omega
   clear h;go_enter Tryz.func147,Tryz.ntmps147;go_wp2;go_ret;exact ⟨rfl,(brf).alloc nle _⟩
  ·have h4:((n:Int) != 4*ways)=true:=by rw [bne_iff_ne];omega
   clear h;go_enter Tryz.func147,Tryz.ntmps147;go_wp2;go_ret;exact ⟨rfl,(brf).alloc nle _⟩
  ·have h4:((n:Int) != 8*ways)=true:=by rw [bne_iff_ne];omega
   clear h;go_enter Tryz.func147,Tryz.ntmps147;go_wp2;go_ret;exact ⟨rfl,(brf).alloc nle _⟩
 ·have q1:(sets != 1)=true:=by rw [bne_iff_ne];omega
  have q2:(sets != 2)=true:=by rw [bne_iff_ne];omega
  have q4:(sets != 4)=true:=by rw [bne_iff_ne];omega
  have q8:(sets != 8)=true:=by rw [bne_iff_ne];omega
  clear h h1;go_enter Tryz.func147,Tryz.ntmps147;go_wp2;go_ret;exact ⟨rfl,(brf).alloc nle _⟩
theorem kU (v:Value) (t:TlbM) (p:Bool) (w:World) (h:TlbAt w v t):
 Calls Tryz.prog 147 #[v,.bool p] w fun e w'=>e=.returned (.bool (ah t p))∧Bw w w':=by
 obtain ⟨a,cap,rfl,hr,he,hs,hw,hl,hlc,hcm,hnil,hsp⟩:=h;obtain ⟨sets,ways,es⟩:=t;simp only at hr he hs hw hl hlc hnil |-;by_cases hsh:(sets=1∨sets=2∨sets=4∨sets=8)∧1<=ways∧ways<=4∧(es.length:Int)=sets*ways
 ·have hv:ah ⟨sets,ways,es⟩ p=be ⟨sets,ways,es⟩ p 0 es:=by simp only [ah,mM];rw [decide_eq_true hsh,Bool.true_and]
  rw [hv];obtain ⟨h1,h2,h3,h4⟩:=hsh;obtain ⟨b,off,rfl⟩:∃b off,a=some (AD b off):=by
   rcases hr.2 with h0 | ⟨b,off,rfl,_,_⟩
   ·rw [h0] at h4;rcases h1 with rfl | rfl | rfl | rfl <;> simp at h4 <;> omega
   ·exact ⟨b,off,rfl⟩
  exact yI sets h1 b off cap ways es es.length p w hr he hl rfl h2 h3 h4
 ·have hv:ah ⟨sets,ways,es⟩ p=false:=by simp only [ah,mM];rw [decide_eq_false hsh,Bool.false_and]
  rw [hv];exact xr a es.length cap sets ways p w hl hs hw hsh
section
attribute [local go_sem ↓] Go.wp_at_zero Go.wp_at_succ
theorem TlbAt.keep {w w':World} {v:Value} {t:TlbM} (h:TlbAt w v t) (hb:Bw w w'):TlbAt w' v t:=by
 obtain ⟨a,cap,rfl,hr,r⟩:=h;exact ⟨a,cap,rfl,hr.keep hb,r⟩
def bw (t:TlbM):Bool:=ah t true || ah t false
def ew (x:EntM) (va asid:Int):Bool:=x.valid && (x.tag == cW va x.level) && (x.glob || x.asid == asid)
theorem rH (v:Value) (t:TlbM) (w:World) (h:TlbAt w v t):
 Calls Tryz.prog 141 #[v] w fun e w'=>e=.returned (.bool (bw t))∧Bw w w':=by
 have HT:=hid h;obtain ⟨a,cap,rfl,_⟩:=h;have a1:=lj w #[VI t.sets,VI t.ways,.slice a t.es.length cap] 33;unfold bw;obtain ⟨p,hp⟩:∃p,ah t true=p:=⟨_,rfl⟩;obtain ⟨q,hq⟩:∃q,ah t false=q:=⟨_,rfl⟩;rw [hp,hq];have HP:=hid hp;have HQ:=hid hq;clear hp hq;go_enter Tryz.func141,Tryz.ntmps141;go_wp2_with fail;generalize w.alloc (Obj.cells #[VI t.sets,VI t.ways,.slice a t.es.length cap] 33)=v1 at a1 |-;obtain ⟨l1,c1,n1⟩:=a1;have c10:=c1 0;have c11:=c1 1;have c12:=c1 2;refine (kU _ t true v1 (HT.out.keep n1)).mono ?_;rw [HP.out];rintro e v2 ⟨rfl,n2⟩;have d10:=Below.cell2 n2 c10 l1;have d11:=Below.cell2 n2 c11 l1;have d12:=Below.cell2 n2 c12 l1;have n12:=bst n1 n2;clear c1 c10 c11 c12 n1 n2;cases p
 ·go_wp2_with fail;refine (kU _ t false v2 (HT.out.keep n12)).mono ?_;rw [HQ.out];rintro e v3 ⟨rfl,n3⟩;have n13:=bst n12 n3;clear d10 d11 d12 n3;go_wp2;go_ret;exact ⟨ik (by simp),n13⟩
 ·go_wp2;go_ret;exact ⟨ik (by simp),n12⟩
theorem Aa (x:EntM) (va asid:Int) (w:World) (hx:bO x) (hlv:x.valid=true->0<=x.level∧x.level<=2) (hv0:0<=va) (hv1:va<=18446744073709551615):
 Calls Tryz.prog 148 #[qI x,VU va,VU asid] w fun e w'=>e=.returned (.bool (ew x va asid))∧Bw w w':=by
 obtain ⟨v,lv,tg,asd,gl,pt⟩:=x;unfold qI ew;simp only at hlv |-;have n1:=(Below.refl w.heap.size w).alloc nle (Obj.cells #[.bool v,VI lv,VU tg,VU asd,.bool gl,VU pt] 153);cases v
 ·go_enter Tryz.func148,Tryz.ntmps148;go_wp2;go_quiet (fail);go_wp2;go_ret;exact ⟨ik (by simp),below_drewN n1 nq⟩
 obtain ⟨hl0,hl2⟩:=hlv rfl;obtain ⟨tv,htv⟩:∃tv,cW va lv=tv:=⟨_,rfl⟩;rw [htv];have HC:Hid (∀w:World,Calls Tryz.prog 154 #[VU va,VI lv] w fun e w'=>e=.returned (VU tv)∧∃n,w'=w.drewN n):=fun w=>by
  have:=uv va lv w hv0 hv1 hl0 hl2;rw [htv] at this;exact this
 clear htv;cases ht:(tg == tv)
 ·go_enter Tryz.func148,Tryz.ntmps148;go_wp2;go_quiet ((go_at_call 154;exact Calls.quiet_of (HC.out _)));go_wp2;go_ret;exact ⟨ik (by simp),below_drewN n1 nq⟩
 ·cases gl
  ·go_enter Tryz.func148,Tryz.ntmps148;go_wp2;go_quiet ((go_at_call 154;exact Calls.quiet_of (HC.out _)));go_wp2;go_ret;exact ⟨ik (by simp),below_drewN n1 nq⟩
  ·go_enter Tryz.func148,Tryz.ntmps148;go_wp2;go_quiet ((go_at_call 154;exact Calls.quiet_of (HC.out _)));go_wp2;go_ret;exact ⟨ik (by simp),below_drewN n1 nq⟩
end
section
attribute [local go_sem ↓] Go.wp_at_zero Go.wp_at_succ
def gt (va asid l:Int) (x:EntM):Bool:=x.level == l && ew x va asid
def ke (va asid l:Int):Nat->List EntM->Option (Nat × EntM)
 | _,[]=>none
 | i,e::r=>if gt va asid l e=true then some (i,e) else ke va asid l (i+1) r
def aX (l:Int):Option (Nat × EntM)->Option (Bool × Int × Int × Int)
 | none=>none
 | some (i,e)=>some (true,(i:Int),l,e.pte)
def aj (t:TlbM) (va asid:Int):Bool × Int × Int × Int:=
 if bw t=false then (false,0,0,0)
 else ((aX 0 (ke va asid 0 0 t.es)).or ((aX 1 (ke va asid 1 0 t.es)).or (aX 2 (ke va asid 2 0 t.es)))).getD (false,0,0,0)
theorem qT (va asid l:Int):∀(es:List EntM) (i:Nat),(∀(j:Nat) x,es[j]?=some x->gt va asid l x=false)->ke va asid l i es=none
 | [],i,h=>rfl
 | e::r,i,h=>by
  rw [ke,if_neg (by rw [h 0 e rfl];simp)];exact qT va asid l r (i+1) (fun j x hx=>h (j+1) x (by simpa using hx))
theorem qU (va asid l:Int):∀(es:List EntM) (i k:Nat) (x:EntM),es[k]?=some x->gt va asid l x=true->(∀j y,j<k->es[j]?=some y->gt va asid l y=false)->ke va asid l i es=some (i+k,x)
 | e::r,i,0,x,hx,hh,h=>by
  simp at hx;subst hx;rw [ke,if_pos hh];rfl
 | e::r,i,k+1,x,hx,hh,h=>by
  rw [ke,if_neg (by rw [h 0 e (by omega) rfl];simp),qU va asid l r (i+1) k x (by simpa using hx) hh (fun j y hj hy=>h (j+1) y (by omega) (by simpa using hy))];congr 2;omega
theorem qh (t:TlbM) (p:Bool):∀(es:List EntM) (i:Nat),be t p i es=true->∀j x,es[j]?=some x->aQ t p (i+j) x=true
 | e::r,i,h,0,x,hx=>by
  simp at hx;subst hx;simp only [be,Bool.and_eq_true] at h;exact h.1
 | e::r,i,h,j+1,x,hx=>by
  simp only [be,Bool.and_eq_true] at h;have:=qh t p r (i+1) h.2 j x (by simpa using hx);rw [show i+(j+1)=i+1+j by omega];exact this
theorem sU {t:TlbM} {p:Bool} {i:Nat} {x:EntM} (h:aQ t p i x=true) (hv:x.valid=true):0<=x.level∧x.level<=2:=by
 simp only [aQ,Bool.or_eq_true,Bool.and_eq_true] at h;rcases h with h | h
 ·rw [hv] at h;simp at h
 ·have:=h.1;simp only [iB,Bool.and_eq_true,decide_eq_true_eq] at this;exact ⟨this.1.1.1.1.1.2,this.1.1.1.1.2⟩
theorem bL {t:TlbM} (h:bw t=true) (j:Nat) (x:EntM) (hx:t.es[j]?=some x) (hv:x.valid=true):0<=x.level∧x.level<=2:=by
 simp only [bw,ah,Bool.or_eq_true,Bool.and_eq_true] at h;rcases h with h | h
 ·exact sU (qh t true t.es 0 h.2 j x hx) hv
 ·exact sU (qh t false t.es 0 h.2 j x hx) hv
theorem Av (t:TlbM) (va asid:Int) (l k:Nat) (x:EntM) (he:bw t=true) (hl:l<=2) (hp:∀l':Nat,l'<l->ke va asid l' 0 t.es=none) (hf:ke va asid l 0 t.es=some (k,x)):
 aj t va asid=(true,(k:Int),(l:Int),x.pte):=by
 unfold aj;rw [if_neg (by rw [he];simp)];rcases (show l=0∨l=1∨l=2 by omega) with rfl | rfl | rfl
 ·have hf':ke va asid 0 0 t.es=some (k,x):=hf;rw [hf'];rfl
 ·have h0:ke va asid 0 0 t.es=none:=hp 0 (by omega);have hf':ke va asid 1 0 t.es=some (k,x):=hf;rw [h0,hf'];rfl
 ·have h0:ke va asid 0 0 t.es=none:=hp 0 (by omega);have h1:ke va asid 1 0 t.es=none:=hp 1 (by omega);have hf':ke va asid 2 0 t.es=some (k,x):=hf;rw [h0,h1,hf'];rfl
theorem vL (t:TlbM) (va asid:Int) (he:bw t=true) (hp:∀l':Nat,l'<3->ke va asid l' 0 t.es=none):aj t va asid=(false,0,0,0):=by
 have h0:ke va asid 0 0 t.es=none:=hp 0 (by omega);have h1:ke va asid 1 0 t.es=none:=hp 1 (by omega);have h2:ke va asid 2 0 t.es=none:=hp 2 (by omega);unfold aj;rw [if_neg (by rw [he];simp),h0,h1,h2];rfl
theorem ld (v:Value) (t:TlbM) (va asid:Int) (w:World) (h:TlbAt w v t) (hv0:0<=va) (hv1:va<=18446744073709551615):
 Calls Tryz.prog 130 #[v,VU va,VU asid] w fun e w'=>
  e=.returned (.agg #[.bool (aj t va asid).1,VI (aj t va asid).2.1,VI (aj t va asid).2.2.1,VU (aj t va asid).2.2.2])∧Bw w w':=by
 have HT:=hid h;obtain ⟨a,cap,rfl,hr,he,hs,hw,hl,hlc,hcm,hnil,hsp⟩:=h;obtain ⟨⟨x1,x2,x3,x4⟩,hX⟩:∃X,aj t va asid=X:=⟨_,rfl⟩;rw [hX];simp only;have HX:=hid hX;obtain ⟨eb,heb⟩:∃eb,bw t=eb:=⟨_,rfl⟩;have HEb:=hid heb;obtain ⟨n,hn⟩:∃n,t.es.length=n:=⟨_,rfl⟩;have HN:=hid hn;rw [hn] at hr hl hlc hnil |-;have HR:=hid hr;have HE:=hid he;have n1:=((Below.refl w.heap.size w).alloc nle (Obj.cells #[VI t.sets,VI t.ways,.slice a n cap] 33)).alloc (by simp) (Obj.cells #[.bool false,VI 0,VI 0,VU 0] 242);have H1:Hid (((w.alloc (Obj.cells #[VI t.sets,VI t.ways,.slice a n cap] 33)).alloc (Obj.cells #[.bool false,VI 0,VI 0,VU 0] 242)).heap[w.heap.size+1]?=some (.cells #[.bool false,VI 0,VI 0,VU 0] 242 (0,0))):=by
  have:=F6 (w.alloc (Obj.cells #[VI t.sets,VI t.ways,.slice a n cap] 33)) (Obj.cells #[.bool false,VI 0,VI 0,VU 0] 242);simp only [World.size_alloc] at this;exact this
 have H2:Hid (((w.alloc (Obj.cells #[VI t.sets,VI t.ways,.slice a n cap] 33)).alloc (Obj.cells #[.bool false,VI 0,VI 0,VU 0] 242)).cell? (AD w.heap.size 2)=some (.slice a n cap)):=by
  show _=_;simp
 have l1:w.heap.size+1<((w.alloc (Obj.cells #[VI t.sets,VI t.ways,.slice a n cap] 33)).alloc (Obj.cells #[.bool false,VI 0,VI 0,VU 0] 242)).heap.size:=by simp
 clear hX heb hn hr he hs hw hnil hsp;go_enter Tryz.func130,Tryz.ntmps130;go_wp2_with fail;generalize (w.alloc (Obj.cells #[VI t.sets,VI t.ways,.slice a n cap] 33)).alloc (Obj.cells #[.bool false,VI 0,VI 0,VU 0] 242)=v1 at n1 H1 H2 l1 |-;have HTn:Hid (TlbAt w (.agg #[VI t.sets,VI t.ways,.slice a n cap]) t):=by have:=HT.out;rw [HN.out] at this;exact this
 refine (rH _ t v1 (HTn.out.keep n1)).mono ?_;rw [HEb.out];rintro e v2 ⟨rfl,n2⟩;have n12:=bst n1 n2;have K1:=hid (ae H1.out n2 l1);have K2:=Below.cell2 n2 H2.out (by omega);have l2:=ltl l1 n2.size;clear n1 n2 H1 H2 l1;cases eb
 ·obtain ⟨⟨d0,d1,d2,d3⟩,e0,e1,e2,e3⟩:=ig K1.out;have hz:(x1,x2,x3,x4)=(false,0,0,0):=by rw [<-HX.out];unfold aj;rw [if_pos HEb.out]
  cases hz;go_wp2_with fail;exact bodyPost_ret (v:=.agg #[.bool false,VI 0,VI 0,VU 0]) (by simp [results,Tryz.results130,go_sem,d0,d1,d2,d3]) rfl ⟨rfl,sq n12 (by omega) _ _ _ _⟩
 ·go_wp2;go_loopw [7] (fun lev wr=>∃l:Nat,l<=3∧lev=VI l∧(∀l':Nat,l'<l->ke va asid l' 0 t.es=none)∧Bw v2 wr) (fun lev _=>3-(intOf lev).toNat)
  case atStart=>exact ⟨0,by omega,rfl,fun l' h=>absurd h (by omega),brf⟩
  case round=>
   obtain ⟨l,hl3,rfl,hprev,hb⟩:=hrel;have HPv:=hid hprev;clear hprev;by_cases hlt:l<=2
   ·have hlt':decide ((l:Int)<=2)=true:=by simp;omega
    go_wp2;go_loopw [8] (fun i wq=>∃k:Nat,k<=n∧i=VI k∧(∀j x,j<k->t.es[j]?=some x->gt va asid l x=false)∧Bw v2 wq) (fun i _=>n-(intOf i).toNat)
    case atStart=>exact ⟨0,Nat.zero_le _,rfl,fun j x hj=>absurd hj (by omega),hb⟩
    case round=>
     obtain ⟨k,hk,rfl,hall,hbq⟩:=hrel;have HA:=hid hall;clear hall hb;have d12:=Below.cell2 hbq K2 (by omega);have l3:w.heap.size+1<wr.heap.size:=ltl l2 hbq.size;have n1q:=bst n12 hbq;by_cases hkn:k<n
     ·have hx:∃x:EntM,t.es[k]?=some x:=⟨_,geg (by have:=HN.out;omega)⟩;obtain ⟨⟨v,lv,tg,asd,gl,pt⟩,hx⟩:=hx;have hok:bO ⟨v,lv,tg,asd,gl,pt⟩:=HE.out _ (List.mem_of_getElem? hx);have hlv:=bL HEb.out k _ hx;obtain ⟨b,off,rfl⟩:∃b off,a=some (AD b off):=by
       rcases HR.out.2 with h0 | ⟨b,off,rfl,_,_⟩
       ·omega
       ·exact ⟨b,off,rfl⟩
      have HRr:=RowC.keep HR.out n1q;have g0:wr.cell? ⟨b,off+k*6,none⟩=some (.bool v):=kx HRr HN.out k _ hx 0 _ (by omega) rfl;have g1:wr.cell? ⟨b,off+k*6+1,none⟩=some (VI lv):=kx HRr HN.out k _ hx 1 _ (by omega) rfl;have g2:wr.cell? ⟨b,off+k*6+2,none⟩=some (VU tg):=kx HRr HN.out k _ hx 2 _ (by omega) rfl;have g3:wr.cell? ⟨b,off+k*6+3,none⟩=some (VU asd):=kx HRr HN.out k _ hx 3 _ (by omega) rfl;have g4:wr.cell? ⟨b,off+k*6+4,none⟩=some (.bool gl):=kx HRr HN.out k _ hx 4 _ (by omega) rfl;have g5:wr.cell? ⟨b,off+k*6+5,none⟩=some (VU pt):=kx HRr HN.out k _ hx 5 _ (by omega) rfl;have HXk:Hid (t.es[k]?=some ⟨v,lv,tg,asd,gl,pt⟩):=hx;have HLv:Hid (v=true->0<=lv∧lv<=2):=hlv;have HPt:Hid (gt va asid l ⟨v,lv,tg,asd,gl,pt⟩=false->∀j x,j<k+1->t.es[j]?=some x->gt va asid l x=false):=fun h j x hj hx'=>by
       by_cases e:j=k
       ·subst e;rw [hx] at hx';cases hx';exact h
       ·exact HA.out j x (by omega) hx'
      clear hx HRr hlv;obtain ⟨fv,hfv⟩:∃fv,ew ⟨v,lv,tg,asd,gl,pt⟩ va asid=fv:=⟨_,rfl⟩;have HF:Hid (ew ⟨v,lv,tg,asd,gl,pt⟩ va asid=fv):=hfv;clear hfv;cases hq:(lv == (l:Int))
      ·go_wp2;go_roundw
       case rel=>exact ⟨k+1,by omega,by go_num,HPt.out (by simp [gt,hq]),hbq⟩
       case measure=>simp [intOf];omega
      ·have hq':lv=(l:Int):=by simpa using hq
       subst hq';clear hq;go_wp2_with fail;refine (Aa ⟨v,(l:Int),tg,asd,gl,pt⟩ va asid wr hok HLv.out hv0 hv1).mono ?_;rw [HF.out];rintro e v5 ⟨rfl,n5⟩;have hb5:=bst hbq n5;have n15:=bst n1q n5;have p5:v5.cell? ⟨b,off+k*6+5,none⟩=some (VU pt):=Below.cell2 n5 g5 (by
        rcases HR.out.2 with h0 | ⟨b',off',e,hlt',_⟩
        ·omega
        ·cases e;exact ltl hlt' n1q.size)
       have p12:=Below.cell2 n5 d12 (by omega);obtain ⟨⟨d0,d1,d2,d3⟩,e0,e1,e2,e3⟩:=ig (ae K1.out hb5 l2);clear g0 g1 g2 g3 g4 g5 d12 n5;cases fv
       ·clear d0 d1 d2 d3 e0 e1 e2 e3 p5;go_wp2;go_roundw
        case rel=>exact ⟨k+1,by omega,by go_num,HPt.out (by simp [gt,HF.out]),hb5⟩
        case measure=>simp [intOf];omega
       ·have hh:gt va asid l ⟨v,(l:Int),tg,asd,gl,pt⟩=true:=by simp [gt,HF.out]
        have hfind:=qU va asid l t.es 0 k _ HXk.out hh HA.out;have HV:Hid ((x1,x2,x3,x4)=(true,(k:Int),(l:Int),pt)):=by
         show _=_;rw [<-HX.out];exact Av t va asid l k _ HEb.out hlt HPv.out (by rw [hfind,Nat.zero_add])
        clear hh hfind;have hV:=HV.out;cases hV;go_wp2_with fail;exact bodyPost_ret (v:=.agg #[.bool true,VI k,VI l,VU x4]) (by simp [results,Tryz.results130,go_sem,d0,d1,d2,d3]) rfl ⟨rfl,sq n15 (by omega) _ _ _ _⟩
     ·have hkn':k=n:=by omega
      have HF:=hid (qT va asid l t.es 0 (fun j x hx=>HA.out j x (by have h1:=(List.getElem?_eq_some_iff.1 hx).1;have h2:=HN.out;omega) hx));go_wp2;go_roundw
      case rel=>exact ⟨l+1,by omega,by go_num,fun l' h=>by
       by_cases e:l'=l
       ·subst e;exact HF.out
       ·exact HPv.out l' (by omega),hbq⟩
      case measure=>simp [intOf];omega
   ·obtain ⟨⟨d0,d1,d2,d3⟩,e0,e1,e2,e3⟩:=ig (ae K1.out hb l2);have n14:=bst n12 hb;have hz:(x1,x2,x3,x4)=(false,0,0,0):=by
     rw [<-HX.out];exact vL t va asid HEb.out (fun l' h=>HPv.out l' (by omega))
    cases hz;clear K2;go_wp2_with fail;exact bodyPost_ret (v:=.agg #[.bool false,VI 0,VI 0,VU 0]) (by simp [results,Tryz.results130,go_sem,d0,d1,d2,d3]) rfl ⟨rfl,sq n14 (by omega) _ _ _ _⟩
end
structure KM where
 i:TlbM
 d:TlbM
 p:TlbM
def dO:TlbM:=⟨0,0,[]⟩
def k0M:KM:=⟨dO,dO,dO⟩
def iP (k:KM):Bool:=ah k.i false && ah k.d false && ah k.p true
def cN (level va satp pte:Int):EntM:=⟨true,level,cW va level,aA satp,aS pte 32,pte⟩
def bH (t:TlbM) (f:FenceM):TlbM:=if bw t=true then ⟨t.sets,t.ways,t.es.map (ja f)⟩ else t
def fT (t:TlbM) (e:EntM):Bool:=(ah t true && iB e true) || (ah t false && iB e false)
def bI (t:TlbM) (e:EntM):Nat:=(e.tag%t.sets*t.ways).toNat
def eY (t:TlbM) (e:EntM) (pick:Int):Nat:=(df t.es (bI t e) 0 t.ways.toNat).getD (pick%t.ways).toNat
def aC (t:TlbM) (e:EntM) (pick:Int):TlbM:=
 if fT t e=true∧0<=pick∧pick<=255 then ⟨t.sets,t.ways,t.es.set (bI t e+eY t e pick) e⟩ else t
def ji (va satp pick:Int):List aT->TlbM->TlbM
 | [],p=>p
 | r::rs,p=>ji va satp pick rs (if aq r.2.2 r.1=1 then aC p (cN r.1 va satp r.2.2) pick else p)
def iG (zs:List Int) (satp va:Int) (up:Bool × Int × Int × Int):Int × Int × Int × List aT:=
 if up.1=true then ag zs va (up.2.2.1-1).toNat (jU up.2.2.2) else aB zs satp va
def gE (k:KM) (kind:Int) (t:TlbM):KM:=if kind=0 then ⟨t,k.d,k.p⟩ else ⟨k.i,t,k.p⟩
def bS (k:KM) (kind:Int):TlbM:=if kind=0 then k.i else k.d
def ay (zs:List Int) (mode:Int) (sum mxr:Bool) (satp:Int) (k:KM) (kind va pick:Int):(Int × Int) × KM:=
 if iP k=false∨kind<0∨2<kind∨mode<0∨2<mode∨pick<0∨255<pick then ((63,0),k0M)
 else if onM mode satp=false then ((0,va),k)
 else if jN va=false then ((bW kind,0),k)
 else if (aj (bS k kind) va (aA satp)).1=true then (dh (aj (bS k kind) va (aA satp)).2.2.2 (aj (bS k kind) va (aA satp)).2.2.1 mode sum mxr kind va,k)
 else
  let r:=iG zs satp va (aj k.p va (aA satp))
  let a:=jx r mode sum mxr kind va
  let k':KM:=⟨k.i,k.d,ji va satp pick r.2.2.2 k.p⟩
  (a,if a.1=0 then gE k' kind (aC (bS k kind) (cN r.2.1 va satp r.2.2.1) pick) else k')
theorem bT {t:TlbM} {p:Bool} (h:ah t p=true):(t.sets=1∨t.sets=2∨t.sets=4∨t.sets=8)∧1<=t.ways∧t.ways<=4∧(t.es.length:Int)=t.sets*t.ways:=by
 simp only [ah,Bool.and_eq_true,mM,decide_eq_true_eq] at h;exact h.1
theorem bU {t:TlbM} {p:Bool} (h:ah t p=true) (j:Nat) (x:EntM) (hx:t.es[j]?=some x):aQ t p j x=true:=by
 simp only [ah,Bool.and_eq_true] at h;have:=qh t p t.es 0 h.2 j x hx;simpa using this
theorem uK {t:TlbM} {p:Bool} (h:mM t=true) (hp:∀(j:Nat) x,t.es[j]?=some x->aQ t p j x=true):ah t p=true:=by
 simp only [ah,Bool.and_eq_true];exact ⟨h,bP t p t.es 0 (fun j x hx=>by simpa using hp j x hx)⟩
theorem jZ {t:TlbM} {p:Bool} (h:ah t p=true):bw t=true:=by
 cases p <;> simp [bw,h]
theorem dP (es:List EntM) (first:Nat):∀(left w r:Nat),df es first w left=some r->w<=r∧r<w+left
 | 0,w,r,h=>by simp [df] at h
 | left+1,w,r,h=>by
  rw [df] at h;split at h
  ·cases h;omega
  ·have:=dP es first left (w+1) r h
   omega
theorem fU (t:TlbM) (e:EntM) (pick:Int) (hw:1<=t.ways) (hw':t.ways<=4):(eY t e pick:Int)<t.ways:=by
 unfold eY;cases h:df t.es (bI t e) 0 t.ways.toNat with
 | none=>
  simp only [Option.getD_none];have h1:0<=pick%t.ways:=Int.emod_nonneg _ (by omega);have h2:pick%t.ways<t.ways:=Int.emod_lt_of_pos _ (by omega);omega
 | some r=>
  simp only [Option.getD_some];have:=dP _ _ _ _ _ h;omega
theorem fB {t:TlbM} {e:EntM} (ht:0<=e.tag) (hs:t.sets=1∨t.sets=2∨t.sets=4∨t.sets=8) (hw:1<=t.ways):(bI t e:Int)=e.tag%t.sets*t.ways:=by
 unfold bI;have:0<=e.tag%t.sets:=Int.emod_nonneg _ (by omega);have:=Int.mul_nonneg this (by omega:0<=t.ways);omega
theorem Fj {t:TlbM} {p:Bool} {e:EntM} {pick:Int} (hv:ah t p=true) (ht:0<=e.tag):bI t e+eY t e pick<t.es.length:=by
 obtain ⟨hs,hw,hw',hl⟩:=bT hv;have h1:=fB (e:=e) ht hs hw;have h2:=fU t e pick hw hw';have h3:e.tag%t.sets<t.sets:=Int.emod_lt_of_pos _ (by omega);have h4:0<=e.tag%t.sets:=Int.emod_nonneg _ (by omega);have h5:(e.tag%t.sets+1)*t.ways<=t.sets*t.ways:=Int.mul_le_mul_of_nonneg_right (by omega) (by omega);rw [Int.add_mul] at h5;omega
theorem fV {t:TlbM} {p:Bool} {e:EntM} {pick:Int} (hv:ah t p=true) (ht:0<=e.tag):((bI t e+eY t e pick:Nat):Int)/t.ways=e.tag%t.sets:=by
 obtain ⟨hs,hw,hw',hl⟩:=bT hv;have h1:=fB (e:=e) ht hs hw;have h2:=fU t e pick hw hw';rw [show ((bI t e+eY t e pick:Nat):Int)=(eY t e pick:Int)+(e.tag%t.sets)*t.ways by omega,Int.add_mul_ediv_right _ _ (by omega)];rw [Int.ediv_eq_zero_of_lt (by omega) h2];omega
theorem eZ {e:EntM} {p:Bool} (h:iB e p=true):aq e.pte e.level=eu p:=by
 simp only [iB,Bool.and_eq_true,beq_iff_eq] at h;exact h.2
theorem bf (t:TlbM) (e:EntM) (pick:Int) (p:Bool) (hv:ah t p=true) (hg:iB e p=true) (ht:0<=e.tag):ah (aC t e pick) p=true:=by
 unfold aC;split
 ·have hs:=bT hv;refine uK ?_ ?_
  ·simp only [mM,decide_eq_true_eq,List.length_set];exact hs
  ·intro j x hx;simp only [List.getElem?_set] at hx;split at hx
   ·rename_i hj;split at hx
    ·cases hx;subst hj;simp only [aQ,Bool.or_eq_true,Bool.and_eq_true,beq_iff_eq];exact .inr ⟨hg,(fV (pick:=pick) hv ht).symm⟩
    ·cases hx
   ·exact bU hv j x hx
 ·exact hv
theorem bq (t:TlbM) (f:FenceM) (p:Bool) (hv:ah t p=true):ah (bH t f) p=true:=by
 unfold bH;rw [if_pos (jZ hv)];have hs:=bT hv;refine uK ?_ ?_
 ·simp only [mM,decide_eq_true_eq,List.length_map];exact hs
 ·intro j x hx;simp only [List.getElem?_map,Option.map_eq_some_iff] at hx;obtain ⟨y,hy,rfl⟩:=hx;have:=bU hv j y hy;unfold ja;split
  ·simp [aQ,dZ]
  ·exact this
section
attribute [local go_sem ↓] Go.wp_at_zero Go.wp_at_succ
def iO (f:FenceM) (k:Nat) (es:List EntM):List EntM:=(es.take k).map (ja f)++es.drop k
theorem nl (f:FenceM) (k:Nat) (es:List EntM):(iO f k es).length=es.length:=by
 simp [iO];omega
theorem rI (f:FenceM) (k:Nat) (es:List EntM) (x:EntM) (hx:es[k]?=some x):iO f (k+1) es=(iO f k es).set k (ja f x):=by
 obtain ⟨hk,rfl⟩:=List.getElem?_eq_some_iff.1 hx;unfold iO;apply List.ext_getElem?;intro j;rw [List.getElem?_set];by_cases hj:k=j
 ·subst hj;rw [if_pos rfl,if_pos (by simp;omega),List.getElem?_append_left (by simp;omega)];simp [hk]
 ·rw [if_neg hj];by_cases hlt:j<k
  ·rw [List.getElem?_append_left (by simp;omega),List.getElem?_append_left (by simp;omega)];simp [hlt,show j<k+1 by omega]
  ·rw [List.getElem?_append_right (by simp;omega),List.getElem?_append_right (by simp;omega)];simp;rw [show min (k+1) es.length=k+1 by omega,show min k es.length=k by omega];congr 1;omega
theorem mG:∀(l:List EntM) (k:Nat) (e:EntM),k<l.length->ao (l.set k e)=((((((ao l).set (k*6) (.bool e.valid)).set (k*6+1) (VI e.level)).set (k*6+2) (VU e.tag)).set (k*6+3) (VU e.asid)).set (k*6+4) (.bool e.glob)).set (k*6+5) (VU e.pte)
 | x::r,0,e,h=>by simp [ao,gV]
 | x::r,k+1,e,h=>by
  have ih:=mG r k e (by simpa using h);rw [List.set_cons_succ];simp only [ao,ih];rw [show (k+1)*6=(gV x).length+k*6 by simp [gV];omega];simp only [Nat.add_assoc];rw [List.set_append_right _ _ (by simp [gV]),List.set_append_right _ _ (by omega),List.set_append_right _ _ (by omega),List.set_append_right _ _ (by omega),List.set_append_right _ _ (by omega),List.set_append_right _ _ (by omega)];simp
theorem nu (v:Value) (t:TlbM) (f:FenceM) (w:World) (h:TlbAt w v t) (hf0:0<=f.va) (hf1:f.va<=18446744073709551615):
 Calls Tryz.prog 109 #[v,xz f] w fun e w'=>(∃x,e=.returned x∧TlbOwn w.heap.size w' x (bH t f))∧Bw w w':=by
 have HT:=hid h;have HOK:=hid (TlbAt.ok h);obtain ⟨a,cap,rfl,hr,_,_,_,hl,hlc,hcm,hnil,hsp⟩:=h;obtain ⟨eb,heb⟩:∃eb,bw t=eb:=⟨_,rfl⟩;have HEb:=hid heb;obtain ⟨sets,ways,es⟩:=t;obtain ⟨hv,fva,ha,fa⟩:=f;obtain ⟨n,hn⟩:∃n,es.length=n:=⟨_,rfl⟩;simp only at hr hl hlc hnil hf0 hf1 HT |-;have HN:=hid hn;rw [hn] at hr hl hlc hnil HT |-;obtain ⟨X,hX⟩:∃X,bH ⟨sets,ways,es⟩ ⟨hv,fva,ha,fa⟩=X:=⟨_,rfl⟩;have HX:=hid hX;rw [hX];have HR0:=hid hr;have HLv:Hid (eb=true->∀(j:Nat) x,es[j]?=some x->x.valid=true->0<=x.level∧x.level<=2):=fun h j x hx hv=>bL (t:=⟨sets,ways,es⟩) (heb.trans h) j x hx hv;clear hX;unfold xz;simp only;obtain ⟨v1,Ev1,n1,H1,H2,H3,l1⟩:=al3 w #[VI sets,VI ways,.slice a n cap] #[.bool hv,VU fva,.bool ha,VU fa] #[VI 0,VI 0,SN] 33 56 33;have HT1:=hid (HT.out.keep n1);have HR1:=hid (hr.keep n1);clear hr hnil hsp HT heb hn;go_enter Tryz.func109,Tryz.ntmps109;go_wp2_with fail;rw [Ev1.out];clear Ev1;refine (mf _ ⟨sets,ways,es⟩ v1 HT1.out).mono ?_;rintro e v2 ⟨⟨x,rfl,g,cp,rfl,o2⟩,n2⟩;simp only at o2 |-;rw [HN.out] at o2 |-;have O2:=hid o2;have hg:=eh o2;have n12:=bst n1 n2;have HT2:=hid (HT1.out.keep n2);have HR2:=hid (RowC.keep HR1.out n2);have K1:=gZ H1 n2;have K2:=gZ H2 n2;have K3:=gZ H3 n2;have l2:=n2.size;obtain ⟨_,hg1,hg2⟩:=hg;simp only at hg1 hg2;clear o2 n1 n2 HT1 HR1 H1 H2 H3;obtain ⟨⟨c0,c1,c2⟩,_,_,_⟩:=ij K1.out;have s0:w.heap.size<v2.heap.size:=by omega
 go_wp2_with fail;obtain ⟨v3,Ev3,n3,H4,l3⟩:=al1 v2 #[VI sets,VI ways,SL g n cp] 33;rw [Ev3.out];clear Ev3;have n13:=bst n12 n3;have HT3:=hid (HT2.out.keep n3);refine (rH _ ⟨sets,ways,es⟩ v3 HT3.out).mono ?_;rw [HEb.out];rintro e v4 ⟨rfl,n4⟩;have n34:=bst n3 n4;have A4:=bst n12 n34;have HR4:Hid (RowC v4 a n 6 (ao es)):=RowC.keep HR2.out n34;have O4:Hid (v4.ownsRow v1.heap.size 153 6 (SL g n cp) n (ao es)):=ab O2.out n34;have P1:=gZ K1 n34;have P2:=gZ K2 n34;have P3:=gZ K3 n34;have P4:=gZ H4 n4;have l4:v2.heap.size<v4.heap.size:=ltl l3 n4.size;clear c0 c1 c2 n12 n13 n3 n4 n34 HT2 HT3 HR2 O2 K1 K2 K3 H4 l3;obtain ⟨⟨p0,p1,p2⟩,_,_,_⟩:=ij P4.out;cases eb
 ·have hfl:X=⟨sets,ways,es⟩:=by rw [<-HX.out];unfold bH;rw [if_neg (by rw [HEb.out];simp)]
  obtain ⟨⟨d0,d1,d2⟩,e0,e1,e2⟩:=ij P3.out;go_wp2_with fail;refine bodyPost_ret (v:=.agg #[VI sets,VI ways,SL g n cp]) (by simp [results,Tryz.results109,go_sem,d0,d1,d2]) rfl ⟨⟨_,rfl,?_⟩,lA A4 (by omega) _ _ _⟩;rw [hfl];refine ⟨g,cp,by rw [HN.out],?_⟩;simp only;rw [HN.out];exact ir (aD O4.out (gb3 v4 (w.heap.size+1+1) _ _ _) (by omega)) (by omega)
 ·have HLv':=HLv.out rfl;have HL2:Hid (∀(j:Nat) x,es[j]?=some x->x.valid=true->0<=x.level∧x.level<=2):=HLv';clear HLv HLv';go_wp2;go_loopw [6] (fun i wr=>∃k:Nat,k<=n∧i=VI k∧v4.grownBy wr (some g)∧wr.ownsRow v1.heap.size 153 6 (SL g n cp) n (ao (iO ⟨hv,fva,ha,fa⟩ k es))) (fun i _=>n-(intOf i).toNat)
  case atStart=>exact ⟨0,Nat.zero_le _,rfl,aM _ _,by rw [show iO ⟨hv,fva,ha,fa⟩ 0 es=es by simp [iO]];exact O4.out⟩
  case round=>
   obtain ⟨k,hk,rfl,hn,hO⟩:=hrel;have HO:Hid (wr.ownsRow v1.heap.size 153 6 (SL g n cp) n (ao (iO ⟨hv,fva,ha,fa⟩ k es))):=hO;have lr:v4.heap.size<=wr.heap.size:=hn.size;clear p0 p1 p2;obtain ⟨⟨p0,p1,p2⟩,_,_,_⟩:=ij (aL P4.out hn (by omega));by_cases hlt:k<n
   ·obtain ⟨x,hx⟩:∃x,es[k]?=some x:=⟨_,geg (by rw [HN.out];exact hlt)⟩;obtain ⟨b,off,rfl,hb⟩:∃b off,a=some (AD b off)∧b<w.heap.size:=by
     rcases HR0.out.2 with h | ⟨b,off,h,h2,_⟩
     ·omega
     ·exact ⟨b,off,h,h2⟩
    have CE:∀j u,j<6->(gV x)[j]?=some u->wr.cell? ⟨b,off+(k*6+j),none⟩=some u:=fun j u hj hu=>
     rL hn (Below.cell2 A4 (kx HR0.out HN.out k x hx j u hj hu) hb) (by omega) (by omega)
    obtain ⟨vv,lv,tg,asd,gl,pt⟩:=x;have g0:wr.cell? ⟨b,off+k*6,none⟩=some (.bool vv):=CE 0 _ (by omega) rfl;have g1:wr.cell? ⟨b,off+k*6+1,none⟩=some (VI lv):=CE 1 _ (by omega) rfl;have g2:wr.cell? ⟨b,off+k*6+2,none⟩=some (VU tg):=CE 2 _ (by omega) rfl;have g3:wr.cell? ⟨b,off+k*6+3,none⟩=some (VU asd):=CE 3 _ (by omega) rfl;have g4:wr.cell? ⟨b,off+k*6+4,none⟩=some (.bool gl):=CE 4 _ (by omega) rfl;have g5:wr.cell? ⟨b,off+k*6+5,none⟩=some (VU pt):=CE 5 _ (by omega) rfl;have hok:bO ⟨vv,lv,tg,asd,gl,pt⟩:=HOK.out.1 _ (List.mem_of_getElem? hx);have HNx:Hid (iO ⟨hv,fva,ha,fa⟩ (k+1) es=(iO ⟨hv,fva,ha,fa⟩ k es).set k (ja ⟨hv,fva,ha,fa⟩ ⟨vv,lv,tg,asd,gl,pt⟩)):=rI _ k es _ hx;have HSm:Hid ((iO ⟨hv,fva,ha,fa⟩ k es).set k ⟨vv,lv,tg,asd,gl,pt⟩=iO ⟨hv,fva,ha,fa⟩ k es):=by
     show _=_;apply List.ext_getElem?;intro j;rw [List.getElem?_set];by_cases hj:k=j
     ·subst hj;rw [if_pos rfl,if_pos (by rw [nl,HN.out];exact hlt)];unfold iO;have hkl:k<=es.length:=by rw [HN.out];omega
      rw [List.getElem?_append_right (by simp;omega),List.length_map,List.length_take,Nat.min_eq_left hkl,Nat.sub_self,List.getElem?_drop,Nat.add_zero,hx]
     ·rw [if_neg hj]
    have HLx:Hid (vv=true->0<=lv∧lv<=2):=fun h=>HL2.out k _ hx h;obtain ⟨⟨c0,c1,c2⟩,_,_,_⟩:=ij (aL P1.out hn (by omega));obtain ⟨⟨f0,f1,f2,f3⟩,_,_,_,_⟩:=ig (aL P2.out hn (by omega));have u0:w.heap.size<wr.heap.size:=by omega
    have u1:w.heap.size+1<wr.heap.size:=by omega
    have u2:v2.heap.size<wr.heap.size:=by omega
    have n5:=(Below.refl wr.heap.size wr).alloc nle (Obj.cells #[.bool vv,VI lv,VU tg,VU asd,.bool gl,VU pt] 153);clear CE hx hO;cases vv
    ·have hst:ja ⟨hv,fva,ha,fa⟩ ⟨false,lv,tg,asd,gl,pt⟩=⟨false,lv,tg,asd,gl,pt⟩:=by simp [ja]
     go_wp2;go_roundw
     case rel=>exact ⟨k+1,by omega,by go_num,li hn n5,by rw [HNx.out,hst,HSm.out];exact ab HO.out n5⟩
     case measure=>simp [intOf];omega
    ·obtain ⟨hl0,hl2⟩:=HLx.out rfl;obtain ⟨cb,hcb⟩:∃cb,fS ⟨hv,fva,ha,fa⟩ lv tg asd gl=cb:=⟨_,rfl⟩;have HCov:Hid (∀w,Calls Tryz.prog 142 #[.agg #[.bool hv,VU fva,.bool ha,VU fa],VI lv,VU tg,VU asd,.bool gl] w fun e w'=>e=.returned (.bool cb)∧Bw w w'):=fun w=>by
      have:=xA ⟨hv,fva,ha,fa⟩ lv tg asd gl w hf0 hf1 hl0 hl2;rw [hcb] at this;exact this
     have HCb:Hid (fS ⟨hv,fva,ha,fa⟩ lv tg asd gl=cb):=hcb;clear hcb;go_wp2_with fail;generalize wr.alloc (Obj.cells #[.bool true,VI lv,VU tg,VU asd,.bool gl,VU pt] 153)=v5 at n5 |-;refine (HCov.out v5).mono ?_;rintro e v6 ⟨rfl,n6⟩;have n56:=bst n5 n6;have hn6:=li hn n56;have HO6:=hid (ab HO.out n56);clear g0 g1 g2 g3 g4 g5 c0 c1 c2 f0 f1 f2 f3 p0 p1 p2 n5 n6 HO hn;obtain ⟨⟨p0,p1,p2⟩,_,_,_⟩:=ij (aL P4.out hn6 (by omega));cases cb
     ·have hst:ja ⟨hv,fva,ha,fa⟩ ⟨true,lv,tg,asd,gl,pt⟩=⟨true,lv,tg,asd,gl,pt⟩:=by simp [ja,HCb.out]
      go_wp2;go_roundw
      case rel=>exact ⟨k+1,by omega,by go_num,hn6,by rw [HNx.out,hst,HSm.out];exact HO6.out⟩
      case measure=>simp [intOf];omega
     ·have hst:ja ⟨hv,fva,ha,fa⟩ ⟨true,lv,tg,asd,gl,pt⟩=dZ:=by simp [ja,HCb.out]
      have hcl:(ao (iO ⟨hv,fva,ha,fa⟩ k es)).length=n*6:=by rw [kz,nl,HN.out]
      have q0:=il HO6.out (k*6) _ (geg (by omega));have q1:=il HO6.out (k*6+1) _ (geg (by omega));have q2:=il HO6.out (k*6+2) _ (geg (by omega));have q3:=il HO6.out (k*6+3) _ (geg (by omega));have q4:=il HO6.out (k*6+4) _ (geg (by omega));have q5:=il HO6.out (k*6+5) _ (geg (by omega));generalize (ao (iO ⟨hv,fva,ha,fa⟩ k es))[k*6]'_=y0 at q0;generalize (ao (iO ⟨hv,fva,ha,fa⟩ k es))[k*6+1]'_=y1 at q1;generalize (ao (iO ⟨hv,fva,ha,fa⟩ k es))[k*6+2]'_=y2 at q2;generalize (ao (iO ⟨hv,fva,ha,fa⟩ k es))[k*6+3]'_=y3 at q3;generalize (ao (iO ⟨hv,fva,ha,fa⟩ k es))[k*6+4]'_=y4 at q4;generalize (ao (iO ⟨hv,fva,ha,fa⟩ k es))[k*6+5]'_=y5 at q5;have r0:=iy HO6.out (k*6);have r1:=iy HO6.out (k*6+1);have r2:=iy HO6.out (k*6+2);have r3:=iy HO6.out (k*6+3);have r4:=iy HO6.out (k*6+4);have r5:=iy HO6.out (k*6+5);go_wp2;go_roundw
      case rel=>
       refine ⟨k+1,by omega,by go_num,hZ (hZ (hZ (hZ (hZ (hZ hn6 _ _) _ _) _ _) _ _) _ _) _ _,?_⟩;rw [HNx.out,hst,mG _ _ _ (by rw [nl,HN.out];exact hlt)];exact eX (eX (eX (eX (eX (eX HO6.out _ _) _ _) _ _) _ _) _ _) _ _
      case measure=>simp [intOf];omega
   ·have hkn:k=n:=by omega
    subst hkn;have hfl:X=⟨sets,ways,es.map (ja ⟨hv,fva,ha,fa⟩)⟩:=by rw [<-HX.out];unfold bH;rw [if_pos HEb.out]
    have hsn:iO ⟨hv,fva,ha,fa⟩ k es=es.map (ja ⟨hv,fva,ha,fa⟩):=by
     have hq:=HN.out;unfold iO;rw [<-hq,List.take_length,List.drop_length,List.append_nil]
    obtain ⟨⟨d0,d1,d2⟩,e0,e1,e2⟩:=ij (aL P3.out hn (by omega));go_wp2_with fail;refine bodyPost_ret (v:=.agg #[VI sets,VI ways,SL g k cp]) (by simp [results,Tryz.results109,go_sem,d0,d1,d2]) rfl ⟨⟨_,rfl,?_⟩,lA (A4.grown hn (by have:=A4.size;omega) (fun q hq=>by cases hq;omega)) (by omega) _ _ _⟩;rw [hfl];refine ⟨g,cp,by simp only [List.length_map];rw [HN.out],?_⟩;simp only [List.length_map];rw [HN.out,<-hsn];exact ir (aD HO.out (gb3 wr (w.heap.size+1+1) _ _ _) (by omega)) (by omega)
end
section
attribute [local go_sem ↓] Go.wp_at_zero Go.wp_at_succ
theorem sC {v:World} {p:Nat} {T:TypeId} {a b c d e f:Value} (h:v.heap[p]?=some (.cells #[a,b,c,d,e,f] T (0,0))):
 v.cell? (AD p 0)=some a∧v.cell? (AD p 1)=some b∧v.cell? (AD p 2)=some c∧v.cell? (AD p 3)=some d∧v.cell? (AD p 4)=some e∧v.cell? (AD p 5)=some f:=by
 simp [World.cell?,h]
theorem TlbOwn.drew {base:Nat} {w:World} {v:Value} {t:TlbM} (h:TlbOwn base w v t):TlbOwn base w.drew v t:=h
theorem re (es:List EntM) (first:Nat):∀(left w k:Nat),k<left->(∀j,j<k->(es[first+(w+j)]?.getD dZ).valid=true)->(es[first+(w+k)]?.getD dZ).valid=false->df es first w left=some (w+k)
 | 0,w,k,h,_,_=>by omega
 | left+1,w,0,h,h1,h2=>by
  rw [df,if_pos (by simpa using h2)];rfl
 | left+1,w,k+1,h,h1,h2=>by
  rw [df,if_neg (by have:=h1 0 (by omega);simp at this;rw [this];simp)];rw [re es first left (w+1) k (by omega) (fun j hj=>by rw [show w+1+j=w+(j+1) by omega];exact h1 (j+1) (by omega)) (by rw [show w+1+k=w+(k+1) by omega];exact h2)];congr 1;omega
theorem rf (es:List EntM) (first:Nat):∀(left w:Nat),(∀j,j<left->(es[first+(w+j)]?.getD dZ).valid=true)->df es first w left=none
 | 0,w,h=>rfl
 | left+1,w,h=>by
  rw [df,if_neg (by have:=h 0 (by omega);simp at this;rw [this];simp)];exact rf es first left (w+1) (fun j hj=>by rw [show w+1+j=w+(j+1) by omega];exact h (j+1) (by omega))
theorem pN (v:Value) (t:TlbM) (x:EntM) (pick:Int) (w:World) (h:TlbAt w v t) (hx:bO x):
 Calls Tryz.prog 136 #[v,qI x,VI pick] w fun e w'=>(∃y,e=.returned y∧TlbOwn w.heap.size w' y (aC t x pick))∧Bw w w':=by
 have HT:=hid h;have HOK:=hid (TlbAt.ok h);obtain ⟨a,cap,rfl,hr,_,_,_,hl,hlc,hcm,hnil,hsp⟩:=h;obtain ⟨sets,ways,es⟩:=t;obtain ⟨vv,lv,tg,asd,gl,pt⟩:=x;obtain ⟨n,hn⟩:∃n,es.length=n:=⟨_,rfl⟩;simp only at hr hl hlc hnil HT |-;have HN:=hid hn;rw [hn] at hr hl hlc hnil HT |-;obtain ⟨X,hX⟩:∃X,aC ⟨sets,ways,es⟩ ⟨vv,lv,tg,asd,gl,pt⟩ pick=X:=⟨_,rfl⟩;have HX:=hid hX;rw [hX];have HR0:=hid hr;obtain ⟨q1,hq1⟩:∃q,ah ⟨sets,ways,es⟩ true=q:=⟨_,rfl⟩;obtain ⟨q2,hq2⟩:∃q,ah ⟨sets,ways,es⟩ false=q:=⟨_,rfl⟩;obtain ⟨q3,hq3⟩:∃q,iB ⟨vv,lv,tg,asd,gl,pt⟩ true=q:=⟨_,rfl⟩;obtain ⟨q4,hq4⟩:∃q,iB ⟨vv,lv,tg,asd,gl,pt⟩ false=q:=⟨_,rfl⟩;have HFi:Hid (fT ⟨sets,ways,es⟩ ⟨vv,lv,tg,asd,gl,pt⟩=((q1 && q3) || (q2 && q4))):=by show _=_;rw [fT,hq1,hq2,hq3,hq4]
 have HQ:Hid (ah ⟨sets,ways,es⟩ true=q1∧ah ⟨sets,ways,es⟩ false=q2):=⟨hq1,hq2⟩;have HG:Hid (∀p w,Calls Tryz.prog 153 #[.agg #[.bool vv,VI lv,VU tg,VU asd,.bool gl,VU pt],.bool p] w fun e w'=>e=.returned (.bool (cond p q3 q4))∧Bw w w'):=fun p w=>by
  have:=ph ⟨vv,lv,tg,asd,gl,pt⟩ p w hx;cases p
  ·rw [hq4] at this;exact this
  ·rw [hq3] at this;exact this
 have HV:Hid (∀p w,TlbAt w (.agg #[VI sets,VI ways,.slice a n cap]) ⟨sets,ways,es⟩->Calls Tryz.prog 147 #[.agg #[VI sets,VI ways,.slice a n cap],.bool p] w fun e w'=>e=.returned (.bool (cond p q1 q2))∧Bw w w'):=fun p w h=>by
  have:=kU _ _ p w h;cases p
  ·rw [hq2] at this;exact this
  ·rw [hq1] at this;exact this
 unfold qI;simp only;obtain ⟨v1,Ev1,n1,H1,H2,H3,l1⟩:=al3 w #[VI sets,VI ways,.slice a n cap] #[.bool vv,VI lv,VU tg,VU asd,.bool gl,VU pt] #[VI 0,VI 0,SN] 33 153 33;have HT1:=hid (HT.out.keep n1);clear hr hnil hsp HT hn hX hq1 hq2 hq3 hq4;go_enter Tryz.func136,Tryz.ntmps136;go_wp2_with fail;rw [Ev1.out];clear Ev1;refine (mf _ ⟨sets,ways,es⟩ v1 HT1.out).mono ?_;rintro e v2 ⟨⟨x,rfl,g,cp,rfl,o2⟩,n2⟩;simp only at o2 |-;rw [HN.out] at o2 |-;have O2:=hid o2;have hg:=eh o2;have A2:=bst n1 n2;have HT2:=hid (HT1.out.keep n2);have K1:=gZ H1 n2;have K2:=gZ H2 n2;have K3:=gZ H3 n2;have l2:=n2.size;obtain ⟨_,hg1,hg2⟩:=hg;simp only at hg1 hg2;clear o2 n1 n2 HT1 H1 H2 H3;go_upto_region 2 with fail;obtain ⟨v3,Ev3,n3,H4,l3⟩:=al1 v2 #[VI sets,VI ways,SL g n cp] 33;rw [Ev3.out];clear Ev3;have A3:=bst A2 n3;have HT3:Hid (∀v,Bw v3 v->TlbAt v (.agg #[VI sets,VI ways,.slice a n cap]) ⟨sets,ways,es⟩):=fun v hv=>(HT2.out.keep n3).keep hv;have O3:Hid (v3.ownsRow v1.heap.size 153 6 (SL g n cp) n (ao es)):=ab O2.out n3;have P1:=gZ K1 n3;have P2:=gZ K2 n3;have P3:=gZ K3 n3;clear n3 HT2 O2 K1 K2 K3 A2;have HC:Hid (∀v,Bw v3 v->(v.cell? (AD w.heap.size 0)=some (VI sets)∧v.cell? (AD w.heap.size 1)=some (VI ways)∧v.cell? (AD w.heap.size 2)=some (.slice a n cap))∧
  v.cell? ⟨w.heap.size+1,0,none⟩=some (.bool vv)∧v.cell? ⟨w.heap.size+1,1,none⟩=some (VI lv)∧v.cell? ⟨w.heap.size+1,2,none⟩=some (VU tg)∧v.cell? ⟨w.heap.size+1,3,none⟩=some (VU asd)∧v.cell? ⟨w.heap.size+1,4,none⟩=some (.bool gl)∧v.cell? ⟨w.heap.size+1,5,none⟩=some (VU pt)):=
  fun v hv=>⟨(ij (ae P1.out hv (by omega))).1,sC (ae P2.out hv (by omega))⟩
 have bl:Bw v3 v3:=brf;obtain ⟨FB,hFB⟩:∃FB,((q1 && q3) || (q2 && q4))=FB:=⟨_,rfl⟩;go_cut [8] (fun s8 wx=>s8=.bool FB∧Bw v3 wx)
 case first=>
  obtain ⟨⟨c0,c1,c2⟩,f0,f1,f2,f3,f4,f5⟩:=HC.out v3 bl;cases q1
  ·cases q2 <;> cases q4;all_goals
    go_wp2_with (first
    | (go_at_call 147;refine (HV.out _ _ (HT3.out _ bl)).mono ?_;rintro e vz ⟨rfl,nz⟩;dsimp only [cond];replace bl:=bst bl nz;clear c0 c1 c2 f0 f1 f2 f3 f4 f5;have cc:=HC.out _ bl;obtain ⟨⟨c0,c1,c2⟩,f0,f1,f2,f3,f4,f5⟩:=cc)
    | (go_at_call 153;refine (HG.out _ _).mono ?_;rintro e vz ⟨rfl,nz⟩;dsimp only [cond];replace bl:=bst bl nz;clear c0 c1 c2 f0 f1 f2 f3 f4 f5;have cc:=HC.out _ bl;obtain ⟨⟨c0,c1,c2⟩,f0,f1,f2,f3,f4,f5⟩:=cc))
    go_meet;exact ⟨by rw [<-hFB];rfl,bl⟩
  ·cases q3
   ·cases q2 <;> cases q4;all_goals
     go_wp2_with (first
     | (go_at_call 147;refine (HV.out _ _ (HT3.out _ bl)).mono ?_;rintro e vz ⟨rfl,nz⟩;dsimp only [cond];replace bl:=bst bl nz;clear c0 c1 c2 f0 f1 f2 f3 f4 f5;have cc:=HC.out _ bl;obtain ⟨⟨c0,c1,c2⟩,f0,f1,f2,f3,f4,f5⟩:=cc)
     | (go_at_call 153;refine (HG.out _ _).mono ?_;rintro e vz ⟨rfl,nz⟩;dsimp only [cond];replace bl:=bst bl nz;clear c0 c1 c2 f0 f1 f2 f3 f4 f5;have cc:=HC.out _ bl;obtain ⟨⟨c0,c1,c2⟩,f0,f1,f2,f3,f4,f5⟩:=cc))
     go_meet;exact ⟨by rw [<-hFB];rfl,bl⟩
   ·go_wp2_with (first
    | (go_at_call 147;refine (HV.out _ _ (HT3.out _ bl)).mono ?_;rintro e vz ⟨rfl,nz⟩;dsimp only [cond];replace bl:=bst bl nz;clear c0 c1 c2 f0 f1 f2 f3 f4 f5;have cc:=HC.out _ bl;obtain ⟨⟨c0,c1,c2⟩,f0,f1,f2,f3,f4,f5⟩:=cc)
    | (go_at_call 153;refine (HG.out _ _).mono ?_;rintro e vz ⟨rfl,nz⟩;dsimp only [cond];replace bl:=bst bl nz;clear c0 c1 c2 f0 f1 f2 f3 f4 f5;have cc:=HC.out _ bl;obtain ⟨⟨c0,c1,c2⟩,f0,f1,f2,f3,f4,f5⟩:=cc))
    go_meet;exact ⟨by rw [<-hFB];rfl,bl⟩
 case rest=>
  obtain ⟨rfl,m⟩:=hcut;generalize wc=v4 at m |-;have A4:=bst A3 m;have O4:Hid (v4.ownsRow v1.heap.size 153 6 (SL g n cp) n (ao es)):=ab O3.out m;have R1:=gZ P1 m;have R2:=gZ P2 m;have R3:=gZ P3 m;have R4:=gZ H4 m;have l4:v3.heap.size<=v4.heap.size:=m.size;have HFB:Hid (fT ⟨sets,ways,es⟩ ⟨vv,lv,tg,asd,gl,pt⟩=FB):=HFi.out.trans hFB;clear HFi hFB HC HT3 HG HV P1 P2 P3 H4 O3 A3 m bl;obtain ⟨⟨p0,p1,p2⟩,_,_,_⟩:=ij R4.out;obtain ⟨⟨d0,d1,d2⟩,e0,e1,e2⟩:=ij R3.out;by_cases hok:FB=true∧0<=pick∧pick<=255
  ·obtain ⟨rfl,hp0,hp1⟩:=hok;obtain ⟨pp,hvp,hgp⟩:∃pp,ah ⟨sets,ways,es⟩ pp=true∧iB ⟨vv,lv,tg,asd,gl,pt⟩ pp=true:=by
    have:=HFB.out;simp only [fT,Bool.or_eq_true,Bool.and_eq_true] at this;rcases this with ⟨h1,h2⟩ | ⟨h1,h2⟩
    ·exact ⟨true,h1,h2⟩
    ·exact ⟨false,h1,h2⟩
   obtain ⟨hs,hw,hw',hnw⟩:=bT hvp;simp only at hs hw hw' hnw;rw [HN.out] at hnw;have htg:tg<512:=yH hgp;have htg0:0<=tg:=hx.2.1.1;have HXe:Hid (X=⟨sets,ways,es.set (bI ⟨sets,ways,es⟩ ⟨vv,lv,tg,asd,gl,pt⟩+eY ⟨sets,ways,es⟩ ⟨vv,lv,tg,asd,gl,pt⟩ pick) ⟨vv,lv,tg,asd,gl,pt⟩⟩):=by
    show _=_;rw [<-HX.out];unfold aC;rw [if_pos ⟨HFB.out,hp0,hp1⟩]
   obtain ⟨⟨c0,c1,c2⟩,_,_,_⟩:=ij R1.out;obtain ⟨f0,f1,f2,f3,f4,f5⟩:=sC R2.out;have hf1:=fB (t:=⟨sets,ways,es⟩) (e:=⟨vv,lv,tg,asd,gl,pt⟩) htg0 hs hw;simp only at hf1;have HIx:=fun pk=>Fj (t:=⟨sets,ways,es⟩) (e:=⟨vv,lv,tg,asd,gl,pt⟩) (pick:=pk) hvp htg0;obtain ⟨fi,hfi⟩:∃fi,bI ⟨sets,ways,es⟩ ⟨vv,lv,tg,asd,gl,pt⟩=fi:=⟨_,rfl⟩;have HFi:Hid (bI ⟨sets,ways,es⟩ ⟨vv,lv,tg,asd,gl,pt⟩=fi):=hfi;rw [hfi] at hf1;have hfb:(fi:Int)+ways<=n:=by
    have h3:tg%sets<sets:=Int.emod_lt_of_pos _ (by omega);have h5:(tg%sets+1)*ways<=sets*ways:=Int.mul_le_mul_of_nonneg_right (by omega) (by omega);rw [Int.add_mul] at h5;omega
   have HF1:Hid ((fi:Int)=tg%sets*ways):=hf1;have HWr:Hid (wrap64 (tg%sets*ways)=(fi:Int)):=by
    show _=_;rw [<-hf1];unfold wrap64;omega
   clear hfi HIx hf1;go_upto_region 5 with fail;go_cut [9] (fun s9 wx=>s9=VI fi∧∃q,wx=v4.drewN q)
   case first=>
    rcases hs with rfl | rfl | rfl | rfl;all_goals
     go_quiet (fail);go_wp2;go_meet;exact ⟨by first | rw [HWr.out] | (rw [HF1.out] <;> simp),nq,rfl⟩
   case rest=>
    obtain ⟨rfl,qd,rfl⟩:=hcut;have A5:Bw w (v4.drewN qd):=below_drewN A4 qd;have O5:Hid ((v4.drewN qd).ownsRow v1.heap.size 153 6 (SL g n cp) n (ao es)):=O4;have S1:Hid ((v4.drewN qd).heap[w.heap.size]?=_):=R1;have S2:Hid ((v4.drewN qd).heap[w.heap.size+1]?=_):=R2;have S3:Hid ((v4.drewN qd).heap[w.heap.size+1+1]?=_):=R3;have S4:Hid ((v4.drewN qd).heap[v2.heap.size]?=_):=R4;have l5:v3.heap.size<=(v4.drewN qd).heap.size:=l4;generalize v4.drewN qd=v5 at A5 O5 S1 S2 S3 S4 l5 |-;clear O4 R1 R2 R3 R4 l4 A4 c0 c1 c2 f0 f1 f2 f3 f4 f5 p0 p1 p2 d0 d1 d2 e0 e1 e2;go_wp2;go_loopw [10] (fun i wr=>∃k:Nat,(k:Int)<=ways∧i=VI k∧(∀j,j<k->(es[fi+j]?.getD dZ).valid=true)∧Bw v5 wr) (fun i _=>ways.toNat-(intOf i).toNat)
    case atStart=>exact ⟨0,by omega,rfl,fun j hj=>absurd hj (by omega),brf⟩
    case round=>
     obtain ⟨k,hk,rfl,hall,hb⟩:=hrel;have HAll:Hid (∀j,j<k->(es[fi+j]?.getD dZ).valid=true):=hall;have HO:Hid (wr.ownsRow v1.heap.size 153 6 (SL g n cp) n (ao es)):=ab O5.out hb;have A6:=bst A5 hb;have lr:v3.heap.size<=wr.heap.size:=Nat.le_trans l5 hb.size;obtain ⟨⟨c0,c1,c2⟩,_,_,_⟩:=ij (ae S1.out hb (by omega));obtain ⟨f0,f1,f2,f3,f4,f5⟩:=sC (ae S2.out hb (by omega));obtain ⟨⟨d0,d1,d2⟩,e0,e1,e2⟩:=ij (ae S3.out hb (by omega));obtain ⟨⟨p0,p1,p2⟩,_,_,_⟩:=ij (ae S4.out hb (by omega));clear hall;by_cases hlt:(k:Int)<ways
     ·obtain ⟨x,hx'⟩:∃x,es[fi+k]?=some x:=⟨_,geg (by rw [HN.out];omega)⟩;obtain ⟨b,off,rfl,hbb⟩:∃b off,a=some (AD b off)∧b<w.heap.size:=by
       rcases HR0.out.2 with h | ⟨b,off,h,h2,_⟩
       ·omega
       ·exact ⟨b,off,h,h2⟩
      have CE:∀j u,j<6->(gV x)[j]?=some u->wr.cell? ⟨b,off+((fi+k)*6+j),none⟩=some u:=fun j u hj hu=>
       Below.cell2 A6 (kx HR0.out HN.out (fi+k) x hx' j u hj hu) hbb
      obtain ⟨xv,x1,x2,x3,x4,x5⟩:=x;have g0:wr.cell? ⟨b,off+(fi+k)*6,none⟩=some (.bool xv):=CE 0 _ (by omega) rfl;have g1:wr.cell? ⟨b,off+(fi+k)*6+1,none⟩=some (VI x1):=CE 1 _ (by omega) rfl;have g2:wr.cell? ⟨b,off+(fi+k)*6+2,none⟩=some (VU x2):=CE 2 _ (by omega) rfl;have g3:wr.cell? ⟨b,off+(fi+k)*6+3,none⟩=some (VU x3):=CE 3 _ (by omega) rfl;have g4:wr.cell? ⟨b,off+(fi+k)*6+4,none⟩=some (.bool x4):=CE 4 _ (by omega) rfl;have g5:wr.cell? ⟨b,off+(fi+k)*6+5,none⟩=some (VU x5):=CE 5 _ (by omega) rfl;have HXv:Hid ((es[fi+k]?.getD dZ).valid=xv):=by show _=_;rw [hx'];rfl
      clear CE hx';cases xv
      ·have HXf:Hid (X=⟨sets,ways,es.set (fi+k) ⟨vv,lv,tg,asd,gl,pt⟩⟩):=by
        show _=_;rw [HXe.out,HFi.out];have:eY ⟨sets,ways,es⟩ ⟨vv,lv,tg,asd,gl,pt⟩ pick=k:=by
         unfold eY;simp only;rw [HFi.out,re es fi ways.toNat 0 k (by omega) (fun j hj=>by rw [Nat.zero_add];exact HAll.out j hj) (by rw [Nat.zero_add];exact HXv.out)];simp
        rw [this]
       have hcl:(ao es).length=n*6:=by rw [kz,HN.out]
       have y0:=il HO.out ((fi+k)*6) _ (geg (by omega));have y1:=il HO.out ((fi+k)*6+1) _ (geg (by omega));have y2:=il HO.out ((fi+k)*6+2) _ (geg (by omega));have y3:=il HO.out ((fi+k)*6+3) _ (geg (by omega));have y4:=il HO.out ((fi+k)*6+4) _ (geg (by omega));have y5:=il HO.out ((fi+k)*6+5) _ (geg (by omega));generalize (ao es)[(fi+k)*6]'_=z0 at y0;generalize (ao es)[(fi+k)*6+1]'_=z1 at y1;generalize (ao es)[(fi+k)*6+2]'_=z2 at y2;generalize (ao es)[(fi+k)*6+3]'_=z3 at y3;generalize (ao es)[(fi+k)*6+4]'_=z4 at y4;generalize (ao es)[(fi+k)*6+5]'_=z5 at y5;have r0:=iy HO.out ((fi+k)*6);have r1:=iy HO.out ((fi+k)*6+1);have r2:=iy HO.out ((fi+k)*6+2);have r3:=iy HO.out ((fi+k)*6+3);have r4:=iy HO.out ((fi+k)*6+4);have r5:=iy HO.out ((fi+k)*6+5);clear hcl;go_wp2_with fail;refine bodyPost_ret (v:=.agg #[VI sets,VI ways,SL g n cp]) (by simp [results,Tryz.results136,go_sem,d0,d1,d2]) rfl ⟨⟨_,rfl,?_⟩,lA (A6.grown (hZ (hZ (hZ (hZ (hZ (hZ (aM wr (some g)) _ _) _ _) _ _) _ _) _ _) _ _) (by have:=A6.size;omega) (fun q hq=>by cases hq;omega)) (by omega) _ _ _⟩;rw [HXf.out];refine ⟨g,cp,by simp only [List.length_set];rw [HN.out],?_⟩;simp only [List.length_set];rw [HN.out,mG es (fi+k) _ (by rw [HN.out];omega)];exact ir (aD (eX (eX (eX (eX (eX (eX HO.out _ _) _ _) _ _) _ _) _ _) _ _) (gb3 _ (w.heap.size+1+1) _ _ _) (by omega)) (by omega)
      ·go_wp2;go_roundw
       case rel=>exact ⟨k+1,by omega,by go_num,fun j hj=>by
        by_cases e:j=k
        ·subst e;exact HXv.out
        ·exact HAll.out j (by omega),hb⟩
       case measure=>simp [intOf];omega
     ·have hkw:(k:Int)=ways:=by omega
      obtain ⟨pk,hpk⟩:=Int.eq_ofNat_of_zero_le (Int.emod_nonneg pick (show ways≠0 by omega));have hpk':(pk:Int)<ways:=by rw [<-hpk];exact Int.emod_lt_of_pos _ (by omega)
      have HXf:Hid (X=⟨sets,ways,es.set (fi+pk) ⟨vv,lv,tg,asd,gl,pt⟩⟩):=by
       show _=_;rw [HXe.out,HFi.out];have:eY ⟨sets,ways,es⟩ ⟨vv,lv,tg,asd,gl,pt⟩ pick=pk:=by
        unfold eY;simp only;rw [HFi.out,rf es fi ways.toNat 0 (fun j hj=>by rw [Nat.zero_add];exact HAll.out j (by omega)),hpk];simp
       rw [this]
      have hcl:(ao es).length=n*6:=by rw [kz,HN.out]
      have y0:=il HO.out ((fi+pk)*6) _ (geg (by omega));have y1:=il HO.out ((fi+pk)*6+1) _ (geg (by omega));have y2:=il HO.out ((fi+pk)*6+2) _ (geg (by omega));have y3:=il HO.out ((fi+pk)*6+3) _ (geg (by omega));have y4:=il HO.out ((fi+pk)*6+4) _ (geg (by omega));have y5:=il HO.out ((fi+pk)*6+5) _ (geg (by omega));generalize (ao es)[(fi+pk)*6]'_=z0 at y0;generalize (ao es)[(fi+pk)*6+1]'_=z1 at y1;generalize (ao es)[(fi+pk)*6+2]'_=z2 at y2;generalize (ao es)[(fi+pk)*6+3]'_=z3 at y3;generalize (ao es)[(fi+pk)*6+4]'_=z4 at y4;generalize (ao es)[(fi+pk)*6+5]'_=z5 at y5;have r0:=iy HO.out ((fi+pk)*6);have r1:=iy HO.out ((fi+pk)*6+1);have r2:=iy HO.out ((fi+pk)*6+2);have r3:=iy HO.out ((fi+pk)*6+3);have r4:=iy HO.out ((fi+pk)*6+4);have r5:=iy HO.out ((fi+pk)*6+5);clear hcl;have hrem:pick.tmod ways=(pk:Int):=by rw [Int.tmod_eq_emod_of_nonneg hp0];exact hpk
      have hwz:ways≠0:=by omega
      clear hpk;have i1:g≠w.heap.size:=by omega
      have i2:w.heap.size≠g:=by omega
      have i3:g≠w.heap.size+1:=by omega
      have i4:w.heap.size+1≠g:=by omega
      have i5:g≠v2.heap.size:=by omega
      have i6:v2.heap.size≠g:=by omega
      go_wp2_with fail;have t1:IntKind.i64.wrap ((fi:Int)+(pk:Int))=(fi:Int)+pk:=by
       rw [IntKind.wrap_i64];omega
      have t2:(0:Int)<=(fi:Int)+pk:=by omega
      have t3:(fi:Int)+pk<n:=by omega
      go_region_held (fun w'=>w'.cell? (AD v2.heap.size 2)=some (SL g n cp)∧w'.cell? (AD w.heap.size 1)=some (VI ways)∧w'.cell? ⟨w.heap.size+1,0,none⟩=some (.bool vv)∧w'.cell? ⟨w.heap.size+1,1,none⟩=some (VI lv)∧w'.cell? ⟨w.heap.size+1,2,none⟩=some (VU tg)∧w'.cell? ⟨w.heap.size+1,3,none⟩=some (VU asd)∧w'.cell? ⟨w.heap.size+1,4,none⟩=some (.bool gl)∧w'.cell? ⟨w.heap.size+1,5,none⟩=some (VU pt)) (go_keep) (fail);go_wp2_with fail;refine bodyPost_ret (v:=.agg #[VI sets,VI ways,SL g n cp]) (by simp [results,Tryz.results136,go_sem,d0,d1,d2]) rfl ⟨⟨_,rfl,?_⟩,(lA (A6.grown (hZ (hZ (hZ (hZ (hZ (hZ (aM wr (some g)) _ _) _ _) _ _) _ _) _ _) _ _) (by have:=A6.size;omega) (fun q hq=>by cases hq;omega)) (by omega) _ _ _).drew⟩;rw [HXf.out];refine ⟨g,cp,by simp only [List.length_set];rw [HN.out],?_⟩;simp only [List.length_set];rw [HN.out,mG es (fi+pk) _ (by rw [HN.out];omega)];exact ir (oy (aD (eX (eX (eX (eX (eX (eX HO.out _ _) _ _) _ _) _ _) _ _) _ _) (gb3 _ (w.heap.size+1+1) _ _ _) (by omega))) (by omega)
  ·have hXt:X=⟨sets,ways,es⟩:=by
    rw [<-HX.out];unfold aC;rw [if_neg (by rw [HFB.out];exact hok)]
   have fin:∀v5,v5=v4->TlbOwn w.heap.size (((v5.setCell ⟨w.heap.size+1+1,0,none⟩ (VI sets)).setCell ⟨w.heap.size+1+1,1,none⟩ (VI ways)).setCell ⟨w.heap.size+1+1,2,none⟩ (SL g n cp)) (.agg #[VI sets,VI ways,SL g n cp]) X:=by
    rintro _ rfl;rw [hXt];refine ⟨g,cp,by rw [HN.out],?_⟩;simp only;rw [HN.out];exact ir (aD O4.out (gb3 _ (w.heap.size+1+1) _ _ _) (by omega)) (by omega)
   have HFin:Hid _:=fin;clear fin hXt;cases FB
   ·go_wp2_with fail;exact bodyPost_ret (v:=.agg #[VI sets,VI ways,SL g n cp]) (by simp [results,Tryz.results136,go_sem,d0,d1,d2]) rfl ⟨⟨_,rfl,(by first | exact HFin.out _ rfl | exact TlbOwn.drew (HFin.out _ rfl))⟩,(by first | exact lA A4 (by omega) _ _ _ | exact (lA A4 (by omega) _ _ _).drew)⟩
   ·by_cases hpn:pick<0
    ·go_wp2_with fail;exact bodyPost_ret (v:=.agg #[VI sets,VI ways,SL g n cp]) (by simp [results,Tryz.results136,go_sem,d0,d1,d2]) rfl ⟨⟨_,rfl,(by first | exact HFin.out _ rfl | exact TlbOwn.drew (HFin.out _ rfl))⟩,(by first | exact lA A4 (by omega) _ _ _ | exact (lA A4 (by omega) _ _ _).drew)⟩
    ·have hpg:255<pick:=by
      have:=hok;simp at this;omega
     go_wp2_with fail;exact bodyPost_ret (v:=.agg #[VI sets,VI ways,SL g n cp]) (by simp [results,Tryz.results136,go_sem,d0,d1,d2]) rfl ⟨⟨_,rfl,(by first | exact HFin.out _ rfl | exact TlbOwn.drew (HFin.out _ rfl))⟩,(by first | exact lA A4 (by omega) _ _ _ | exact (lA A4 (by omega) _ _ _).drew)⟩
end
end Go.Proofs.YtjdmhibnhpdjaaaGreat
