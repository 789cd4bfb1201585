import Derived.Test.YtkenjknmfhoppaaGreatSk04
namespace Go.Proofs.YtkenjknmfhoppaaGreat
open Go.RowKit
set_option linter.unusedVariables false
set_option maxHeartbeats 6400000
set_option maxRecDepth 20000
theorem vM (a:Option Addr) (n cap:Nat) (sets ways:Int) (p:Bool) (w:World) (hl:n<=1048576) (hs: -9223372036854775808<=sets∧sets<=9223372036854775807) (hw: -9223372036854775808<=ways∧ways<=9223372036854775807)
 (h:¬((sets=1∨sets=2∨sets=4∨sets=8)∧1<=ways∧ways<=4∧(n:Int)=sets*ways)):
 Calls Tryz.prog 123 #[.agg #[VI sets,VI ways,.slice a n cap],.bool p] w fun e w'=>e=.returned (.bool false)∧Bw w w':=by
 by_cases h1:sets=1∨sets=2∨sets=4∨sets=8
 ·by_cases h2:ways<1
  ·rcases h1 with rfl | rfl | rfl | rfl;all_goals
    go_enter Tryz.func123,Tryz.ntmps123;go_wp2;go_ret;exact ⟨rfl,(brf).alloc nle _⟩
  by_cases h3:4<ways
  ·rcases h1 with rfl | rfl | rfl | rfl;all_goals
    go_enter Tryz.func123,Tryz.ntmps123;go_wp2;go_ret;exact ⟨rfl,(brf).alloc nle _⟩
  rcases h1 with rfl | rfl | rfl | rfl
  ·have h4:((n:Int) != ways)=true:=by rw [bne_iff_ne];omega
   clear h;go_enter Tryz.func123,Tryz.ntmps123;go_wp2;go_ret;exact ⟨rfl,(brf).alloc nle _⟩
  ·have h4:((n:Int) != 2*ways)=true:=by rw [bne_iff_ne];omega
   clear h;go_enter Tryz.func123,Tryz.ntmps123;go_wp2;go_ret;exact ⟨rfl,(brf).alloc nle _⟩
  ·have h4:((n:Int) != 4*ways)=true:=by rw [bne_iff_ne];omega
   clear h;go_enter Tryz.func123,Tryz.ntmps123;go_wp2;go_ret;exact ⟨rfl,(brf).alloc nle _⟩
  ·have h4:((n:Int) != 8*ways)=true:=by rw [bne_iff_ne];omega
   clear h;go_enter Tryz.func123,Tryz.ntmps123;go_wp2;go_ret;exact ⟨rfl,(brf).alloc nle _⟩
 ·have q1:(sets != 1)=true:=by rw [bne_iff_ne];omega
  have q2:(sets != 2)=true:=by rw [bne_iff_ne];omega
  have q4:(sets != 4)=true:=by rw [bne_iff_ne];omega
  have q8:(sets != 8)=true:=by rw [bne_iff_ne];omega
  clear h h1;go_enter Tryz.func123,Tryz.ntmps123;go_wp2;go_ret;exact ⟨rfl,(brf).alloc nle _⟩
theorem fM (v:Value) (t:TlbM) (p:Bool) (w:World) (h:TlbAt w v t):
 Calls Tryz.prog 123 #[v,.bool p] w fun e w'=>e=.returned (.bool (aR t p))∧Bw w w':=by
 obtain ⟨a,cap,rfl,hr,he,hs,hw,hl,hlc,hcm,hnil,hsp⟩:=h;obtain ⟨sets,ways,es⟩:=t;simp only at hr he hs hw hl hlc hnil |-;by_cases hsh:(sets=1∨sets=2∨sets=4∨sets=8)∧1<=ways∧ways<=4∧(es.length:Int)=sets*ways
 ·have hv:aR ⟨sets,ways,es⟩ p=gF ⟨sets,ways,es⟩ p 0 es:=by simp only [aR,jA];rw [decide_eq_true hsh,Bool.true_and]
  rw [hv];obtain ⟨h1,h2,h3,h4⟩:=hsh;obtain ⟨b,off,rfl⟩:∃b off,a=some (AD b off):=by
   rcases hr.2 with h0 | ⟨b,off,rfl,_,_⟩
   ·rw [h0] at h4;rcases h1 with rfl | rfl | rfl | rfl <;> simp at h4 <;> omega
   ·exact ⟨b,off,rfl⟩
  exact xT sets h1 b off cap ways es es.length p w hr he hl rfl h2 h3 h4
 ·have hv:aR ⟨sets,ways,es⟩ p=false:=by simp only [aR,jA];rw [decide_eq_false hsh,Bool.false_and]
  rw [hv];exact vM a es.length cap sets ways p w hl hs hw hsh
section
attribute [local go_sem ↓] Go.wp_at_zero Go.wp_at_succ
theorem TlbAt.keep {w w':World} {v:Value} {t:TlbM} (h:TlbAt w v t) (hb:Bw w w'):TlbAt w' v t:=by
 obtain ⟨a,cap,rfl,hr,r⟩:=h;exact ⟨a,cap,rfl,hr.keep hb,r⟩
def gy (t:TlbM):Bool:=aR t true || aR t false
def mj (x:EntM) (va asid:Int):Bool:=x.valid && (x.tag == gx va x.level) && (x.glob || x.asid == asid)
theorem pL (v:Value) (t:TlbM) (w:World) (h:TlbAt w v t):
 Calls Tryz.prog 161 #[v] w fun e w'=>e=.returned (.bool (gy t))∧Bw w w':=by
 have HT:=hid h;obtain ⟨a,cap,rfl,_⟩:=h;have a1:=fZ w #[VI t.sets,VI t.ways,.slice a t.es.length cap] 39;unfold gy;obtain ⟨p,hp⟩:∃p,aR t true=p:=⟨_,rfl⟩;obtain ⟨q,hq⟩:∃q,aR t false=q:=⟨_,rfl⟩;rw [hp,hq];have HP:=hid hp;have HQ:=hid hq;clear hp hq;go_enter Tryz.func161,Tryz.ntmps161;go_wp2_with fail;generalize w.alloc (Obj.cells #[VI t.sets,VI t.ways,.slice a t.es.length cap] 39)=v1 at a1 |-;obtain ⟨l1,c1,n1⟩:=a1;have c10:=c1 0;have c11:=c1 1;have c12:=c1 2;refine (fM _ t true v1 (HT.out.keep n1)).mono ?_;rw [HP.out];rintro e v2 ⟨rfl,n2⟩;have d10:=Below.cell2 n2 c10 l1;have d11:=Below.cell2 n2 c11 l1;have d12:=Below.cell2 n2 c12 l1;have n12:=bst n1 n2;clear c1 c10 c11 c12 n1 n2;cases p
 ·go_wp2_with fail;refine (fM _ t false v2 (HT.out.keep n12)).mono ?_;rw [HQ.out];rintro e v3 ⟨rfl,n3⟩;have n13:=bst n12 n3;clear d10 d11 d12 n3;go_wp2;go_ret;exact ⟨aD (by simp),n13⟩
 ·go_wp2;go_ret;exact ⟨aD (by simp),n12⟩
theorem zr (x:EntM) (va asid:Int) (w:World) (hx:fq x) (hlv:x.valid=true->0<=x.level∧x.level<=2) (hv0:0<=va) (hv1:va<=18446744073709551615):
 Calls Tryz.prog 169 #[nX x,VU va,VU asid] w fun e w'=>e=.returned (.bool (mj x va asid))∧Bw w w':=by
 obtain ⟨v,lv,tg,asd,gl,pt⟩:=x;unfold nX mj;simp only at hlv |-;have n1:=(Below.refl w.heap.size w).alloc nle (Obj.cells #[.bool v,VI lv,VU tg,VU asd,.bool gl,VU pt] 127);cases v
 ·go_enter Tryz.func169,Tryz.ntmps169;go_wp2;go_quiet (fail);go_wp2;go_ret;exact ⟨aD (by simp),below_drewN n1 nq⟩
 obtain ⟨hl0,hl2⟩:=hlv rfl;obtain ⟨tv,htv⟩:∃tv,gx va lv=tv:=⟨_,rfl⟩;rw [htv];have HC:Hid (∀w:World,Calls Tryz.prog 58 #[VU va,VI lv] w fun e w'=>e=.returned (VU tv)∧∃n,w'=w.drewN n):=fun w=>by
  have:=sR va lv w hv0 hv1 hl0 hl2;rw [htv] at this;exact this
 clear htv;cases ht:(tg == tv)
 ·go_enter Tryz.func169,Tryz.ntmps169;go_wp2;go_quiet ((go_at_call 58;exact Calls.quiet_of (HC.out _)));go_wp2;go_ret;exact ⟨aD (by simp),below_drewN n1 nq⟩
 ·cases gl
  ·go_enter Tryz.func169,Tryz.ntmps169;go_wp2;go_quiet ((go_at_call 58;exact Calls.quiet_of (HC.out _)));go_wp2;go_ret;exact ⟨aD (by simp),below_drewN n1 nq⟩
  ·go_enter Tryz.func169,Tryz.ntmps169;go_wp2;go_quiet ((go_at_call 58;exact Calls.quiet_of (HC.out _)));go_wp2;go_ret;exact ⟨aD (by simp),below_drewN n1 nq⟩
end
section
attribute [local go_sem ↓] Go.wp_at_zero Go.wp_at_succ
def iB (va asid l:Int) (x:EntM):Bool:=x.level == l && mj x va asid
def eo (va asid l:Int):Nat->List EntM->Option (Nat × EntM)
 | _,[]=>none
 | i,e::r=>if iB va asid l e=true then some (i,e) else eo va asid l (i+1) r
def iP (l:Int):Option (Nat × EntM)->Option (Bool × Int × Int × Int)
 | none=>none
 | some (i,e)=>some (true,(i:Int),l,e.pte)
def aY (t:TlbM) (va asid:Int):Bool × Int × Int × Int:=
 if gy t=false then (false,0,0,0)
 else ((iP 0 (eo va asid 0 0 t.es)).or ((iP 1 (eo va asid 1 0 t.es)).or (iP 2 (eo va asid 2 0 t.es)))).getD (false,0,0,0)
theorem oG (va asid l:Int):∀(es:List EntM) (i:Nat),(∀(j:Nat) x,es[j]?=some x->iB va asid l x=false)->eo va asid l i es=none
 | [],i,h=>rfl
 | e::r,i,h=>by
  rw [eo,if_neg (by rw [h 0 e rfl];simp)];exact oG va asid l r (i+1) (fun j x hx=>h (j+1) x (by simpa using hx))
theorem oH (va asid l:Int):∀(es:List EntM) (i k:Nat) (x:EntM),es[k]?=some x->iB va asid l x=true->(∀j y,j<k->es[j]?=some y->iB va asid l y=false)->eo va asid l i es=some (i+k,x)
 | e::r,i,0,x,hx,hh,h=>by
  simp at hx;subst hx;rw [eo,if_pos hh];rfl
 | e::r,i,k+1,x,hx,hh,h=>by
  rw [eo,if_neg (by rw [h 0 e (by omega) rfl];simp),oH va asid l r (i+1) k x (by simpa using hx) hh (fun j y hj hy=>h (j+1) y (by omega) (by simpa using hy))];congr 2;omega
theorem mI (t:TlbM) (p:Bool):∀(es:List EntM) (i:Nat),gF t p i es=true->∀j x,es[j]?=some x->cD t p (i+j) x=true
 | e::r,i,h,0,x,hx=>by
  simp at hx;subst hx;simp only [gF,Bool.and_eq_true] at h;exact h.1
 | e::r,i,h,j+1,x,hx=>by
  simp only [gF,Bool.and_eq_true] at h;have:=mI t p r (i+1) h.2 j x (by simpa using hx);rw [show i+(j+1)=i+1+j by omega];exact this
theorem qS {t:TlbM} {p:Bool} {i:Nat} {x:EntM} (h:cD t p i x=true) (hv:x.valid=true):0<=x.level∧x.level<=2:=by
 simp only [cD,Bool.or_eq_true,Bool.and_eq_true] at h;rcases h with h | h
 ·rw [hv] at h;simp at h
 ·have:=h.1;simp only [aZ,Bool.and_eq_true,decide_eq_true_eq] at this;exact ⟨this.1.1.1.1.1.2,this.1.1.1.1.2⟩
theorem ew {t:TlbM} (h:gy t=true) (j:Nat) (x:EntM) (hx:t.es[j]?=some x) (hv:x.valid=true):0<=x.level∧x.level<=2:=by
 simp only [gy,aR,Bool.or_eq_true,Bool.and_eq_true] at h;rcases h with h | h
 ·exact qS (mI t true t.es 0 h.2 j x hx) hv
 ·exact qS (mI t false t.es 0 h.2 j x hx) hv
theorem zY (t:TlbM) (va asid:Int) (l k:Nat) (x:EntM) (he:gy t=true) (hl:l<=2) (hp:∀l':Nat,l'<l->eo va asid l' 0 t.es=none) (hf:eo va asid l 0 t.es=some (k,x)):
 aY t va asid=(true,(k:Int),(l:Int),x.pte):=by
 unfold aY;rw [if_neg (by rw [he];simp)];rcases (show l=0∨l=1∨l=2 by omega) with rfl | rfl | rfl
 ·have hf':eo va asid 0 0 t.es=some (k,x):=hf;rw [hf'];rfl
 ·have h0:eo va asid 0 0 t.es=none:=hp 0 (by omega);have hf':eo va asid 1 0 t.es=some (k,x):=hf;rw [h0,hf'];rfl
 ·have h0:eo va asid 0 0 t.es=none:=hp 0 (by omega);have h1:eo va asid 1 0 t.es=none:=hp 1 (by omega);have hf':eo va asid 2 0 t.es=some (k,x):=hf;rw [h0,h1,hf'];rfl
theorem ug (t:TlbM) (va asid:Int) (he:gy t=true) (hp:∀l':Nat,l'<3->eo va asid l' 0 t.es=none):aY t va asid=(false,0,0,0):=by
 have h0:eo va asid 0 0 t.es=none:=hp 0 (by omega);have h1:eo va asid 1 0 t.es=none:=hp 1 (by omega);have h2:eo va asid 2 0 t.es=none:=hp 2 (by omega);unfold aY;rw [if_neg (by rw [he];simp),h0,h1,h2];rfl
theorem fU (v:Value) (t:TlbM) (va asid:Int) (w:World) (h:TlbAt w v t) (hv0:0<=va) (hv1:va<=18446744073709551615):
 Calls Tryz.prog 154 #[v,VU va,VU asid] w fun e w'=>
  e=.returned (.agg #[.bool (aY t va asid).1,VI (aY t va asid).2.1,VI (aY t va asid).2.2.1,VU (aY t va asid).2.2.2])∧Bw w w':=by
 have HT:=hid h;obtain ⟨a,cap,rfl,hr,he,hs,hw,hl,hlc,hcm,hnil,hsp⟩:=h;obtain ⟨⟨x1,x2,x3,x4⟩,hX⟩:∃X,aY t va asid=X:=⟨_,rfl⟩;rw [hX];simp only;have HX:=hid hX;obtain ⟨eb,heb⟩:∃eb,gy t=eb:=⟨_,rfl⟩;have HEb:=hid heb;obtain ⟨n,hn⟩:∃n,t.es.length=n:=⟨_,rfl⟩;have HN:=hid hn;rw [hn] at hr hl hlc hnil |-;have HR:=hid hr;have HE:=hid he;have n1:=((Below.refl w.heap.size w).alloc nle (Obj.cells #[VI t.sets,VI t.ways,.slice a n cap] 39)).alloc (by simp) (Obj.cells #[.bool false,VI 0,VI 0,VU 0] 270);have H1:Hid (((w.alloc (Obj.cells #[VI t.sets,VI t.ways,.slice a n cap] 39)).alloc (Obj.cells #[.bool false,VI 0,VI 0,VU 0] 270)).heap[w.heap.size+1]?=some (.cells #[.bool false,VI 0,VI 0,VU 0] 270 (0,0))):=by
  have:=er (w.alloc (Obj.cells #[VI t.sets,VI t.ways,.slice a n cap] 39)) (Obj.cells #[.bool false,VI 0,VI 0,VU 0] 270);simp only [World.size_alloc] at this;exact this
 have H2:Hid (((w.alloc (Obj.cells #[VI t.sets,VI t.ways,.slice a n cap] 39)).alloc (Obj.cells #[.bool false,VI 0,VI 0,VU 0] 270)).cell? (AD w.heap.size 2)=some (.slice a n cap)):=by
  show _=_;simp
 have l1:w.heap.size+1<((w.alloc (Obj.cells #[VI t.sets,VI t.ways,.slice a n cap] 39)).alloc (Obj.cells #[.bool false,VI 0,VI 0,VU 0] 270)).heap.size:=by simp
 clear hX heb hn hr he hs hw hnil hsp;go_enter Tryz.func154,Tryz.ntmps154;go_wp2_with fail;generalize (w.alloc (Obj.cells #[VI t.sets,VI t.ways,.slice a n cap] 39)).alloc (Obj.cells #[.bool false,VI 0,VI 0,VU 0] 270)=v1 at n1 H1 H2 l1 |-;have HTn:Hid (TlbAt w (.agg #[VI t.sets,VI t.ways,.slice a n cap]) t):=by have:=HT.out;rw [HN.out] at this;exact this
 refine (pL _ t v1 (HTn.out.keep n1)).mono ?_;rw [HEb.out];rintro e v2 ⟨rfl,n2⟩;have n12:=bst n1 n2;have K1:=hid (ag H1.out n2 l1);have K2:=Below.cell2 n2 H2.out (by omega);have l2:=ltl l1 n2.size;clear n1 n2 H1 H2 l1;cases eb
 ·obtain ⟨⟨d0,d1,d2,d3⟩,e0,e1,e2,e3⟩:=ay K1.out;have hz:(x1,x2,x3,x4)=(false,0,0,0):=by rw [<-HX.out];unfold aY;rw [if_pos HEb.out]
  cases hz;go_wp2_with fail;exact bodyPost_ret (v:=.agg #[.bool false,VI 0,VI 0,VU 0]) (by simp [results,Tryz.results154,go_sem,d0,d1,d2,d3]) rfl ⟨rfl,qr n12 (by omega) _ _ _ _⟩
 ·go_wp2;go_loopw [7] (fun lev wr=>∃l:Nat,l<=3∧lev=VI l∧(∀l':Nat,l'<l->eo va asid l' 0 t.es=none)∧Bw v2 wr) (fun lev _=>3-(intOf lev).toNat)
  case atStart=>exact ⟨0,by omega,rfl,fun l' h=>absurd h (by omega),brf⟩
  case round=>
   obtain ⟨l,hl3,rfl,hprev,hb⟩:=hrel;have HPv:=hid hprev;clear hprev;by_cases hlt:l<=2
   ·have hlt':decide ((l:Int)<=2)=true:=by simp;omega
    go_wp2;go_loopw [8] (fun i wq=>∃k:Nat,k<=n∧i=VI k∧(∀j x,j<k->t.es[j]?=some x->iB va asid l x=false)∧Bw v2 wq) (fun i _=>n-(intOf i).toNat)
    case atStart=>exact ⟨0,Nat.zero_le _,rfl,fun j x hj=>absurd hj (by omega),hb⟩
    case round=>
     obtain ⟨k,hk,rfl,hall,hbq⟩:=hrel;have HA:=hid hall;clear hall hb;have d12:=Below.cell2 hbq K2 (by omega);have l3:w.heap.size+1<wr.heap.size:=ltl l2 hbq.size;have n1q:=bst n12 hbq;by_cases hkn:k<n
     ·have hx:∃x:EntM,t.es[k]?=some x:=⟨_,geg (by have:=HN.out;omega)⟩;obtain ⟨⟨v,lv,tg,asd,gl,pt⟩,hx⟩:=hx;have hok:fq ⟨v,lv,tg,asd,gl,pt⟩:=HE.out _ (List.mem_of_getElem? hx);have hlv:=ew HEb.out k _ hx;obtain ⟨b,off,rfl⟩:∃b off,a=some (AD b off):=by
       rcases HR.out.2 with h0 | ⟨b,off,rfl,_,_⟩
       ·omega
       ·exact ⟨b,off,rfl⟩
      have HRr:=RowC.keep HR.out n1q;have g0:wr.cell? ⟨b,off+k*6,none⟩=some (.bool v):=dL HRr HN.out k _ hx 0 _ (by omega) rfl;have g1:wr.cell? ⟨b,off+k*6+1,none⟩=some (VI lv):=dL HRr HN.out k _ hx 1 _ (by omega) rfl;have g2:wr.cell? ⟨b,off+k*6+2,none⟩=some (VU tg):=dL HRr HN.out k _ hx 2 _ (by omega) rfl;have g3:wr.cell? ⟨b,off+k*6+3,none⟩=some (VU asd):=dL HRr HN.out k _ hx 3 _ (by omega) rfl;have g4:wr.cell? ⟨b,off+k*6+4,none⟩=some (.bool gl):=dL HRr HN.out k _ hx 4 _ (by omega) rfl;have g5:wr.cell? ⟨b,off+k*6+5,none⟩=some (VU pt):=dL HRr HN.out k _ hx 5 _ (by omega) rfl;have HXk:Hid (t.es[k]?=some ⟨v,lv,tg,asd,gl,pt⟩):=hx;have HLv:Hid (v=true->0<=lv∧lv<=2):=hlv;have HPt:Hid (iB va asid l ⟨v,lv,tg,asd,gl,pt⟩=false->∀j x,j<k+1->t.es[j]?=some x->iB va asid l x=false):=fun h j x hj hx'=>by
       by_cases e:j=k
       ·subst e;rw [hx] at hx';cases hx';exact h
       ·exact HA.out j x (by omega) hx'
      clear hx HRr hlv;obtain ⟨fv,hfv⟩:∃fv,mj ⟨v,lv,tg,asd,gl,pt⟩ va asid=fv:=⟨_,rfl⟩;have HF:Hid (mj ⟨v,lv,tg,asd,gl,pt⟩ va asid=fv):=hfv;clear hfv;cases hq:(lv == (l:Int))
      ·go_wp2;go_roundw
       case rel=>exact ⟨k+1,by omega,by go_num,HPt.out (by simp [iB,hq]),hbq⟩
       case measure=>simp [intOf];omega
      ·have hq':lv=(l:Int):=by simpa using hq
       subst hq';clear hq;go_wp2_with fail;refine (zr ⟨v,(l:Int),tg,asd,gl,pt⟩ va asid wr hok HLv.out hv0 hv1).mono ?_;rw [HF.out];rintro e v5 ⟨rfl,n5⟩;have hb5:=bst hbq n5;have n15:=bst n1q n5;have p5:v5.cell? ⟨b,off+k*6+5,none⟩=some (VU pt):=Below.cell2 n5 g5 (by
        rcases HR.out.2 with h0 | ⟨b',off',e,hlt',_⟩
        ·omega
        ·cases e;exact ltl hlt' n1q.size)
       have p12:=Below.cell2 n5 d12 (by omega);obtain ⟨⟨d0,d1,d2,d3⟩,e0,e1,e2,e3⟩:=ay (ag K1.out hb5 l2);clear g0 g1 g2 g3 g4 g5 d12 n5;cases fv
       ·clear d0 d1 d2 d3 e0 e1 e2 e3 p5;go_wp2;go_roundw
        case rel=>exact ⟨k+1,by omega,by go_num,HPt.out (by simp [iB,HF.out]),hb5⟩
        case measure=>simp [intOf];omega
       ·have hh:iB va asid l ⟨v,(l:Int),tg,asd,gl,pt⟩=true:=by simp [iB,HF.out]
        have hfind:=oH va asid l t.es 0 k _ HXk.out hh HA.out;have HV:Hid ((x1,x2,x3,x4)=(true,(k:Int),(l:Int),pt)):=by
         show _=_;rw [<-HX.out];exact zY t va asid l k _ HEb.out hlt HPv.out (by rw [hfind,Nat.zero_add])
        clear hh hfind;have hV:=HV.out;cases hV;go_wp2_with fail;exact bodyPost_ret (v:=.agg #[.bool true,VI k,VI l,VU x4]) (by simp [results,Tryz.results154,go_sem,d0,d1,d2,d3]) rfl ⟨rfl,qr n15 (by omega) _ _ _ _⟩
     ·have hkn':k=n:=by omega
      have HF:=hid (oG va asid l t.es 0 (fun j x hx=>HA.out j x (by have h1:=(List.getElem?_eq_some_iff.1 hx).1;have h2:=HN.out;omega) hx));go_wp2;go_roundw
      case rel=>exact ⟨l+1,by omega,by go_num,fun l' h=>by
       by_cases e:l'=l
       ·subst e;exact HF.out
       ·exact HPv.out l' (by omega),hbq⟩
      case measure=>simp [intOf];omega
   ·obtain ⟨⟨d0,d1,d2,d3⟩,e0,e1,e2,e3⟩:=ay (ag K1.out hb l2);have n14:=bst n12 hb;have hz:(x1,x2,x3,x4)=(false,0,0,0):=by
     rw [<-HX.out];exact ug t va asid HEb.out (fun l' h=>HPv.out l' (by omega))
    cases hz;clear K2;go_wp2_with fail;exact bodyPost_ret (v:=.agg #[.bool false,VI 0,VI 0,VU 0]) (by simp [results,Tryz.results154,go_sem,d0,d1,d2,d3]) rfl ⟨rfl,qr n14 (by omega) _ _ _ _⟩
end
structure FenceM where
 hasVa:Bool
 va:Int
 hasAsid:Bool
 asid:Int
def iM (f:FenceM) (level tag asid:Int) (glob:Bool):Bool:=
 !(f.hasVa && (!dC f.va || tag != gx f.va level)) && (!f.hasAsid || (!glob && asid == f.asid))
def cx (f:FenceM) (e:EntM):EntM:=if (e.valid && iM f e.level e.tag e.asid e.glob)=true then cH else e
def mz (es:List EntM) (first:Nat):Nat->Nat->Option Nat
 | _,0=>none
 | w,left+1=>if (es[first+w]?.getD cH).valid=false then some w else mz es first (w+1) left
structure KM where
 i:TlbM
 d:TlbM
 p:TlbM
def eC:TlbM:=⟨0,0,[]⟩
def k0M:KM:=⟨eC,eC,eC⟩
def bJ (k:KM):Bool:=aR k.i false && aR k.d false && aR k.p true
def eU (level va satp pte:Int):EntM:=⟨true,level,gx va level,aK satp,bX pte 32,pte⟩
def eO (t:TlbM) (f:FenceM):TlbM:=if gy t=true then ⟨t.sets,t.ways,t.es.map (cx f)⟩ else t
def kZ (t:TlbM) (e:EntM):Bool:=(aR t true && aZ e true) || (aR t false && aZ e false)
def fA (t:TlbM) (e:EntM):Nat:=(e.tag%t.sets*t.ways).toNat
def jW (t:TlbM) (e:EntM) (pick:Int):Nat:=(mz t.es (fA t e) 0 t.ways.toNat).getD (pick%t.ways).toNat
def dg (t:TlbM) (e:EntM) (pick:Int):TlbM:=
 if kZ t e=true∧0<=pick∧pick<=255 then ⟨t.sets,t.ways,t.es.set (fA t e+jW t e pick) e⟩ else t
def cG (va satp pick:Int):List ef->TlbM->TlbM
 | [],p=>p
 | r::rs,p=>cG va satp pick rs (if bH r.2.2 r.1=1 then dg p (eU r.1 va satp r.2.2) pick else p)
def aW (zs:List Int) (satp va:Int) (up:Bool × Int × Int × Int):Int × Int × Int × List ef:=
 if up.1=true then cQ zs va (up.2.2.1-1).toNat (dI up.2.2.2) else dn zs satp va
def th (k:KM) (kind:Int) (t:TlbM):KM:=if kind=0 then ⟨t,k.d,k.p⟩ else ⟨k.i,t,k.p⟩
def eV (k:KM) (kind:Int):TlbM:=if kind=0 then k.i else k.d
def cy (zs:List Int) (mode:Int) (sum mxr:Bool) (satp:Int) (k:KM) (kind va pick:Int):(Int × Int) × KM:=
 if bJ k=false∨kind<0∨2<kind∨mode<0∨2<mode∨pick<0∨255<pick then ((63,0),k0M)
 else if onM mode satp=false then ((0,va),k)
 else if dC va=false then ((eR kind,0),k)
 else if (aY (eV k kind) va (aK satp)).1=true then (ft (aY (eV k kind) va (aK satp)).2.2.2 (aY (eV k kind) va (aK satp)).2.2.1 mode sum mxr kind va,k)
 else
  let r:=aW zs satp va (aY k.p va (aK satp))
  let a:=db r mode sum mxr kind va
  let k':KM:=⟨k.i,k.d,cG va satp pick r.2.2.2 k.p⟩
  (a,if a.1=0 then th k' kind (dg (eV k kind) (eU r.2.1 va satp r.2.2.1) pick) else k')
theorem fI {t:TlbM} {p:Bool} (h:aR t p=true):(t.sets=1∨t.sets=2∨t.sets=4∨t.sets=8)∧1<=t.ways∧t.ways<=4∧(t.es.length:Int)=t.sets*t.ways:=by
 simp only [aR,Bool.and_eq_true,jA,decide_eq_true_eq] at h;exact h.1
theorem kB {t:TlbM} {p:Bool} (h:aR t p=true) (j:Nat) (x:EntM) (hx:t.es[j]?=some x):cD t p j x=true:=by
 simp only [aR,Bool.and_eq_true] at h;have:=mI t p t.es 0 h.2 j x hx;simpa using this
theorem ti {t:TlbM} {p:Bool} (h:jA t=true) (hp:∀(j:Nat) x,t.es[j]?=some x->cD t p j x=true):aR t p=true:=by
 simp only [aR,Bool.and_eq_true];exact ⟨h,gH t p t.es 0 (fun j x hx=>by simpa using hp j x hx)⟩
theorem ee {t:TlbM} {p:Bool} (h:aR t p=true):gy t=true:=by
 cases p <;> simp [gy,h]
theorem yw (es:List EntM) (first:Nat):∀(left w r:Nat),mz es first w left=some r->w<=r∧r<w+left
 | 0,w,r,h=>by simp [mz] at h
 | left+1,w,r,h=>by
  rw [mz] at h;split at h
  ·cases h;omega
  ·have:=yw es first left (w+1) r h
   omega
theorem Aw (t:TlbM) (e:EntM) (pick:Int) (hw:1<=t.ways) (hw':t.ways<=4):(jW t e pick:Int)<t.ways:=by
 unfold jW;cases h:mz t.es (fA t e) 0 t.ways.toNat with
 | none=>
  simp only [Option.getD_none];have h1:0<=pick%t.ways:=Int.emod_nonneg _ (by omega);have h2:pick%t.ways<t.ways:=Int.emod_lt_of_pos _ (by omega);omega
 | some r=>
  simp only [Option.getD_some];have:=yw _ _ _ _ _ h;omega
theorem tj {t:TlbM} {e:EntM} (ht:0<=e.tag) (hs:t.sets=1∨t.sets=2∨t.sets=4∨t.sets=8) (hw:1<=t.ways):(fA t e:Int)=e.tag%t.sets*t.ways:=by
 unfold fA;have:0<=e.tag%t.sets:=Int.emod_nonneg _ (by omega);have:=Int.mul_nonneg this (by omega:0<=t.ways);omega
theorem Fy {t:TlbM} {p:Bool} {e:EntM} {pick:Int} (hv:aR t p=true) (ht:0<=e.tag):fA t e+jW t e pick<t.es.length:=by
 obtain ⟨hs,hw,hw',hl⟩:=fI hv;have h1:=tj (e:=e) ht hs hw;have h2:=Aw t e pick hw hw';have h3:e.tag%t.sets<t.sets:=Int.emod_lt_of_pos _ (by omega);have h4:0<=e.tag%t.sets:=Int.emod_nonneg _ (by omega);have h5:(e.tag%t.sets+1)*t.ways<=t.sets*t.ways:=Int.mul_le_mul_of_nonneg_right (by omega) (by omega);rw [Int.add_mul] at h5;omega
theorem EG {t:TlbM} {p:Bool} {e:EntM} {pick:Int} (hv:aR t p=true) (ht:0<=e.tag):((fA t e+jW t e pick:Nat):Int)/t.ways=e.tag%t.sets:=by
 obtain ⟨hs,hw,hw',hl⟩:=fI hv;have h1:=tj (e:=e) ht hs hw;have h2:=Aw t e pick hw hw';rw [show ((fA t e+jW t e pick:Nat):Int)=(jW t e pick:Int)+(e.tag%t.sets)*t.ways by omega,Int.add_mul_ediv_right _ _ (by omega)];rw [Int.ediv_eq_zero_of_lt (by omega) h2];omega
theorem BJ {e:EntM} {p:Bool} (h:aZ e p=true):bH e.pte e.level=iT p:=by
 simp only [aZ,Bool.and_eq_true,beq_iff_eq] at h;exact h.2
theorem ld (t:TlbM) (e:EntM) (pick:Int) (p:Bool) (hv:aR t p=true) (hg:aZ e p=true) (ht:0<=e.tag):aR (dg t e pick) p=true:=by
 unfold dg;split
 ·have hs:=fI hv;refine ti ?_ ?_
  ·simp only [jA,decide_eq_true_eq,List.length_set];exact hs
  ·intro j x hx;simp only [List.getElem?_set] at hx;split at hx
   ·rename_i hj;split at hx
    ·cases hx;subst hj;simp only [cD,Bool.or_eq_true,Bool.and_eq_true,beq_iff_eq];exact .inr ⟨hg,(EG (pick:=pick) hv ht).symm⟩
    ·cases hx
   ·exact kB hv j x hx
 ·exact hv
theorem mA (t:TlbM) (f:FenceM) (p:Bool) (hv:aR t p=true):aR (eO t f) p=true:=by
 unfold eO;rw [if_pos (ee hv)];have hs:=fI hv;refine ti ?_ ?_
 ·simp only [jA,decide_eq_true_eq,List.length_map];exact hs
 ·intro j x hx;simp only [List.getElem?_map,Option.map_eq_some_iff] at hx;obtain ⟨y,hy,rfl⟩:=hx;have:=kB hv j y hy;unfold cx;split
  ·simp [cD,cH]
  ·exact this
theorem kT (zs:List Int) (va:Int):∀(l:Nat) (n:Int),(cQ zs va l n).1=1∨(cQ zs va l n).1=2∨(cQ zs va l n).1=3
 | 0,n=>by
  unfold cQ;split
  ·simp
  ·split
   ·simp
   ·split <;> simp
 | l+1,n=>by
  unfold cQ;split
  ·simp
  ·split
   ·simp
   ·split
    ·simp
    ·exact kT zs va l _
theorem kU (zs:List Int) (root va:Int):(dn zs root va).1=1∨(dn zs root va).1=2∨(dn zs root va).1=3:=by
 unfold dn;split
 ·simp
 ·exact kT zs va 2 _
theorem Ap (va level:Int) (h0:0<=level) (h2:level<=2):0<=gx va level∧gx va level<mh level:=by
 unfold gx mh;rcases (show level=0∨level=1∨level=2 by omega) with rfl | rfl | rfl <;> simp <;> omega
theorem rd {pte level:Int} (h:bH pte level≠0):0<=level∧level<=2:=by
 unfold bH at h;split at h
 ·exact absurd rfl h
 ·omega
theorem kz (level va satp pte:Int) (p:Bool) (hk:bH pte level=iT p):aZ (eU level va satp pte) p=true:=by
 have hl:=rd (by rw [hk];cases p <;> decide);have ht:=Ap va level hl.1 hl.2;have ha:aK satp<=65535:=by unfold aK;omega
 simp [aZ,eU,hl.1,hl.2,ht.2,ha,hk]
theorem yn (level va satp pte:Int) (p:Bool) (hk:bH pte level=iT p):0<=(eU level va satp pte).tag:=by
 have hl:=rd (by rw [hk];cases p <;> decide);exact (Ap va level hl.1 hl.2).1
theorem oX (va satp pick:Int):∀(rs:List ef) (p:TlbM),aR p true=true->aR (cG va satp pick rs p) true=true
 | [],p,h=>h
 | r::rs,p,h=>by
  rw [cG];refine oX va satp pick rs _ ?_;split
  ·rename_i hk;exact ld p _ pick true h (kz _ _ _ _ true hk) (yn _ _ _ _ true hk)
  ·exact h
theorem oY (zs:List Int) (va:Int):∀(l:Nat) (n:Int),(cQ zs va l n).1=1->bH (cQ zs va l n).2.2.1 (cQ zs va l n).2.1=2
 | 0,n=>by
  intro h;unfold cQ at h |-;split at h
  ·simp at h
  ·rename_i h1;rw [if_neg h1];split at h
   ·simp at h
   ·rename_i h2;rw [if_neg h2];split at h
    ·rename_i h3;rw [if_pos h3];exact h3
    ·simp at h
 | l+1,n=>by
  intro h;unfold cQ at h |-;split at h
  ·simp at h
  ·rename_i h1;rw [if_neg h1];split at h
   ·simp at h
   ·rename_i h2;rw [if_neg h2];split at h
    ·rename_i h3;rw [if_pos h3];exact h3
    ·rename_i h3;rw [if_neg h3];exact oY zs va l _ h
theorem zE (zs:List Int) (root va:Int) (h:(dn zs root va).1=1):bH (dn zs root va).2.2.1 (dn zs root va).2.1=2:=by
 unfold dn at h |-;split at h
 ·simp at h
 ·rename_i hc;rw [if_neg hc];exact oY zs va 2 _ h
theorem tf (kind:Int):eR kind≠0:=by
 unfold eR;split
 ·decide
 ·split <;> decide
theorem jF (kind:Int):bP kind≠0:=by
 unfold bP;split
 ·decide
 ·split <;> decide
theorem zF (zs:List Int) (mode:Int) (sum mxr:Bool) (satp:Int) (k:KM) (kind va pick:Int) (hk:bJ k=true) (h1:0<=kind∧kind<=2) (h2:0<=mode∧mode<=2) (h3:0<=pick∧pick<=255):
 bJ (cy zs mode sum mxr satp k kind va pick).2=true:=by
 have hk':=hk;simp only [bJ,Bool.and_eq_true] at hk';obtain ⟨⟨gi,gd⟩,gp⟩:=hk';unfold cy;rw [if_neg (by rw [hk];simp;omega)];split
 ·exact hk
 ·split
  ·exact hk
  ·split
   ·exact hk
   ·simp only;have gp':=oX va satp pick (aW zs satp va (aY k.p va (aK satp))).2.2.2 k.p gp;split
    ·rename_i ha;have hkind:bH (aW zs satp va (aY k.p va (aK satp))).2.2.1 (aW zs satp va (aY k.p va (aK satp))).2.1=2:=by
      have hcode:(aW zs satp va (aY k.p va (aK satp))).1=1:=by
       have hc:(aW zs satp va (aY k.p va (aK satp))).1=1∨(aW zs satp va (aY k.p va (aK satp))).1=2∨(aW zs satp va (aY k.p va (aK satp))).1=3:=by
        unfold aW;split
        ·exact kT zs va _ _
        ·exact kU zs satp va
       unfold db at ha;rcases hc with hc | hc | hc
       ·exact hc
       ·rw [if_pos hc] at ha;exact absurd ha (tf kind)
       ·rw [if_neg (by rw [hc];decide),if_pos hc] at ha;exact absurd ha (jF kind)
      unfold aW at hcode |-;split at hcode
      ·rename_i hu;rw [if_pos hu];exact oY zs va _ _ hcode
      ·rename_i hu;rw [if_neg hu];exact zE zs satp va hcode
     have hge:=kz _ va satp _ false hkind;have hgt:=yn _ va satp _ false hkind;unfold th eV;split
     ·simp only [bJ,Bool.and_eq_true];exact ⟨⟨ld _ _ pick false gi hge hgt,gd⟩,gp'⟩
     ·simp only [bJ,Bool.and_eq_true];exact ⟨⟨gi,ld _ _ pick false gd hge hgt⟩,gp'⟩
    ·simp only [bJ,Bool.and_eq_true];exact ⟨⟨gi,gd⟩,gp'⟩
theorem yg (a k:Nat):(a &&& 2^k != 0)=(a/2^k%2 == 1):=by
 have e:(a/2^k%2 == 1)=a.testBit k:=by rw [Nat.testBit_eq_decide_div_mod_eq];rfl
 rw [e];cases h:a.testBit k
 ·have:a &&& 2^k=0:=by
   apply Nat.eq_of_testBit_eq;intro i;rw [Nat.testBit_and,Nat.testBit_two_pow,Nat.zero_testBit];by_cases hi:k=i
   ·subst hi;simp [h]
   ·simp [hi]
  simp [this]
 ·have:a &&& 2^k≠0:=by
   intro h0;have:=congrArg (fun n=>n.testBit k) h0;simp [Nat.testBit_and,h] at this
  simpa using this
theorem kV (a m n:Nat):(a &&& (m ||| n) != 0)=((a &&& m != 0) || (a &&& n != 0)):=by
 rw [Nat.and_or_distrib_left];cases h:(a &&& m != 0) <;> cases h':(a &&& n != 0) <;> simp_all [Nat.or_eq_zero_iff]
def yi (x m:Int):Bool:=bits .and .u64 x m != 0
theorem ir (a m:Nat) (ha:a<18446744073709551616) (hm:m<18446744073709551616):yi a m=(a &&& m != 0):=by
 rw [yi,u64_and_nat a m ha hm];cases h:(a &&& m != 0)
 ·simp at h;simp [h]
 ·simp at h;simp;omega
theorem dX (k:Nat) (x p:Int) (hp:p=2^k) (hk:p<18446744073709551616) (h0:0<=x) (h1:x<=18446744073709551615):yi x p=bX x p:=by
 obtain ⟨a,rfl⟩:=Int.eq_ofNat_of_zero_le h0;have e:p=((2^k:Nat):Int):=by rw [hp];push_cast;rfl
 rw [e] at hk |-;rw [ir a (2^k) (by omega) (by omega),yg,bX];rw [show ((a:Int)/((2^k:Nat):Int)%2)=((a/2^k%2:Nat):Int) by omega];generalize a/2^k%2=t;rw [Bool.eq_iff_iff];simp only [beq_iff_eq];omega
theorem Dj (x:Int) (h0:0<=x) (h1:x<=18446744073709551615):yi x 14=(bX x 2 || bX x 4 || bX x 8):=by
 rw [<-dX 1 x 2 rfl (by omega) h0 h1,<-dX 2 x 4 rfl (by omega) h0 h1,<-dX 3 x 8 rfl (by omega) h0 h1];obtain ⟨a,rfl⟩:=Int.eq_ofNat_of_zero_le h0;rw [show (14:Int)=((14:Nat):Int) from rfl,show (2:Int)=((2:Nat):Int) from rfl,show (4:Int)=((4:Nat):Int) from rfl,show (8:Int)=((8:Nat):Int) from rfl];rw [ir a 14 (by omega) (by omega),ir a 2 (by omega) (by omega),ir a 4 (by omega) (by omega),ir a 8 (by omega) (by omega)];rw [<-kV,<-kV];rfl
theorem Dk (x:Int) (h0:0<=x) (h1:x<=18446744073709551615):yi x 208=(bX x 16 || bX x 64 || bX x 128):=by
 rw [<-dX 4 x 16 rfl (by omega) h0 h1,<-dX 6 x 64 rfl (by omega) h0 h1,<-dX 7 x 128 rfl (by omega) h0 h1];obtain ⟨a,rfl⟩:=Int.eq_ofNat_of_zero_le h0;rw [show (208:Int)=((208:Nat):Int) from rfl,show (16:Int)=((16:Nat):Int) from rfl,show (64:Int)=((64:Nat):Int) from rfl,show (128:Int)=((128:Nat):Int) from rfl];rw [ir a 208 (by omega) (by omega),ir a 16 (by omega) (by omega),ir a 64 (by omega) (by omega),ir a 128 (by omega) (by omega)];rw [<-kV,<-kV];rfl
theorem uJ (k:Nat) (x m P:Int) (hP:P=2^k) (hm:m=P-1) (hk:m<18446744073709551616) (h0:0<=x) (h1:x<=18446744073709551615):bits .andNot .u64 x m=x/P*P:=by
 obtain ⟨a,rfl⟩:=Int.eq_ofNat_of_zero_le h0;have hp:1<=(2^k:Nat):=Nat.one_le_two_pow;have eP:P=((2^k:Nat):Int):=by rw [hP];push_cast;rfl
 have e:m=((2^k-1:Nat):Int):=by rw [hm,eP];omega
 rw [e] at hk |-;rw [eP,u64_andNot_nat a (2^k-1) (by omega) (by omega)];rw [show ((a:Int)/((2^k:Nat):Int)*((2^k:Nat):Int))=((a/2^k*2^k:Nat):Int) by push_cast;rfl];congr 1;apply Nat.eq_of_testBit_eq;intro i;have hk64:k<=64:=by
  rcases Nat.lt_or_ge 64 k with h | h
  ·have:2^65<=2^k:=Nat.pow_le_pow_right (by omega) h;omega
  ·exact h
 rw [Nat.testBit_and,Nat.testBit_mul_two_pow,Nat.testBit_div_two_pow];by_cases hi:k<=i
 ·by_cases hi':i<64
  ·have:(18446744073709551615-(2^k-1)).testBit i=true:=by
    rw [show 18446744073709551615-(2^k-1)=2^64-(2^k-1+1) by omega,Nat.testBit_two_pow_sub_succ (by omega),Nat.testBit_two_pow_sub_one];simp;omega
   rw [this];simp [hi,show i-k+k=i by omega]
  ·have:a.testBit i=false:=Nat.testBit_lt_two_pow (ltl (by omega:a<2^64) (Nat.pow_le_pow_right (by omega) (by omega)));simp [this,show i-k+k=i by omega]
 ·have:(18446744073709551615-(2^k-1)).testBit i=false:=by
   rw [show 18446744073709551615-(2^k-1)=2^64-(2^k-1+1) by omega,Nat.testBit_two_pow_sub_succ (by omega),Nat.testBit_two_pow_sub_one];simp;omega
  simp [this,hi]
theorem oW (k:Nat) (x y m P:Int) (hP:P=2^k) (hm:m=P-1) (hk:m<18446744073709551616) (h0:0<=x) (h1:x<=18446744073709551615) (g0:0<=y) (g1:y<=18446744073709551615):
 bits .or .u64 (bits .andNot .u64 x m) (bits .and .u64 y m)=x/P*P+y%P:=by
 have hp:1<=P:=by rw [hP];exact Int.pow_pos (by omega:(0:Int)<2)
 rw [uJ k x m P hP hm hk h0 h1,eX k y m (by rw [hm,hP]) hk g0 g1,<-hP];have a1:0<=y%P:=Int.emod_nonneg _ (by omega);have a2:y%P<P:=Int.emod_lt_of_pos _ (by omega);have a3:0<=x/P:=Int.ediv_nonneg h0 (by omega);have a4:x/P*P<=x:=Int.ediv_mul_le _ (by omega);have a5:0<=x/P*P:=Int.mul_nonneg a3 (by omega);have hc:bits .or .u64 (x/P*P) (y%P)=bits .or .u64 (y%P) (x/P*P):=by
  rw [u64_or _ _ a5 (by omega) a1 (by omega),u64_or _ _ a1 (by omega) a5 (by omega),Nat.or_comm]
 rw [hc,fm k P (y%P) (x/P) hP a1 a2 a3 (by omega) (by omega)];omega
theorem dB (n m:Int) (w:World) (h:(n=0∧m=0)∨(n=3∧m=7)∨(n=6∧m=63)∨(n=9∧m=511)∨(n=12∧m=4095)∨(n=44∧m=17592186044415)∨(n=50∧m=1125899906842623)∨(n=15∧m=32767)∨(n=16∧m=65535)):
 Calls Tryz.prog 118 #[VI n] w fun e w'=>e=.returned (VU m)∧w'=w:=by
 rcases h with ⟨rfl,rfl⟩ | ⟨rfl,rfl⟩ | ⟨rfl,rfl⟩ | ⟨rfl,rfl⟩ | ⟨rfl,rfl⟩ | ⟨rfl,rfl⟩ | ⟨rfl,rfl⟩ | ⟨rfl,rfl⟩ | ⟨rfl,rfl⟩;all_goals
  go_enter Tryz.func118,Tryz.ntmps118;go_wp2;go_ret;exact ⟨rfl,rfl⟩
theorem dR (x m:Int) (w:World):
 Calls Tryz.prog 164 #[VU x,VU m] w fun e w'=>e=.returned (.bool (yi x m))∧w'=w:=by
 go_enter Tryz.func164,Tryz.ntmps164;go_wp2;go_ret;exact ⟨rfl,rfl⟩
theorem jg (x:Int) (w:World) (h0:0<=x) (h1:x<=18446744073709551615):
 Calls Tryz.prog 145 #[VU x] w fun e w'=>e=.returned (.bool (dC x))∧w'=w:=by
 have hm:x/16384%1125899906842624=x/16384:=Int.emod_eq_of_lt (Int.ediv_nonneg h0 (by omega)) (by omega);rw [dC,hm];clear hm;by_cases ht:x/16384=0
 ·have ht':(x/16384 == 0)=true:=by simp [ht]
  clear ht;go_enter Tryz.func145,Tryz.ntmps145;go_wp2;go_ret;exact ⟨by simp [ht'],rfl⟩
 ·have ht':(x/16384 == 0)=false:=by simpa using ht
  clear ht;go_enter Tryz.func145,Tryz.ntmps145;go_wp2_with (go_at_call 118;refine (dB 50 1125899906842623 _ (by omega)).mono ?_;rintro e w' ⟨rfl,rfl⟩);go_ret;exact ⟨by simp [ht'],rfl⟩
theorem vH (x:Int) (w:World) (h0:0<=x) (h1:x<=18446744073709551615):
 Calls Tryz.prog 212 #[VU x] w fun e w'=>e=.returned (VU (dI x))∧w'=w:=by
 have H:=hid (eX 44 (x/1024) 17592186044415 rfl (by omega) (by omega) (by omega));go_enter Tryz.func212,Tryz.ntmps212;go_wp2_with (go_at_call 118;refine (dB 44 17592186044415 _ (by omega)).mono ?_;rintro e w' ⟨rfl,rfl⟩);go_ret;exact ⟨dW H.out,rfl⟩
theorem vJ (x:Int) (w:World) (h0:0<=x) (h1:x<=18446744073709551615):
 Calls Tryz.prog 219 #[VU x] w fun e w'=>e=.returned (VU (x/18014398509481984%1024))∧w'=w:=by
 have H:Hid (x/18014398509481984=x/18014398509481984%1024):=show _=_ by omega
 go_enter Tryz.func219,Tryz.ntmps219;go_wp2;go_ret;exact ⟨dW H.out,rfl⟩
def sF (x:Int):Bool:=bX x 1 && (x/18014398509481984%1024 == 0) && !(bX x 4 && !bX x 2)
theorem ko (x:Int) (w:World) (h0:0<=x) (h1:x<=18446744073709551615):
 Calls Tryz.prog 216 #[VU x] w fun e w'=>e=.returned (.bool (sF x))∧w'=w:=by
 have HV:=hid (dX 0 x 1 rfl (by omega) h0 h1);have HR:=hid (dX 1 x 2 rfl (by omega) h0 h1);have HW:=hid (dX 2 x 4 rfl (by omega) h0 h1);cases hw:bX x 4 <;> cases hr:bX x 2 <;> cases hv:bX x 1;all_goals
  go_enter Tryz.func216,Tryz.ntmps216;go_wp2_with (first
   | (go_at_call 164;refine (dR x _ _).mono ?_;rintro e w' ⟨rfl,rfl⟩;first | rw [HW.out,hw] | rw [HR.out,hr] | rw [HV.out,hv])
   | (go_at_call 219;refine (vJ x _ h0 h1).mono ?_;rintro e w' ⟨rfl,rfl⟩))
  all_goals
   go_ret;exact ⟨aD (by simp [sF,hw,hr,hv];try assumption),rfl⟩
theorem sG (x level:Int) (w:World) (h0:0<=x) (h1:x<=18446744073709551615) (hl:level=0∨level=1∨level=2):
 Calls Tryz.prog 217 #[VU x,VI level] w fun e w'=>e=.returned (.bool (dI x%iV level == 0))∧w'=w:=by
 have hpp:0<=dI x∧dI x<17592186044416:=⟨Int.emod_nonneg _ (by omega),Int.emod_lt_of_pos _ (by omega)⟩;have HP:∀w,Hid (Calls Tryz.prog 212 #[VU x] w fun e w'=>e=.returned (VU (dI x))∧w'=w):=fun w=>vH x w h0 h1;generalize dI x=p at *;rcases hl with rfl | rfl | rfl
 ·have H:Hid ((bits .and .u64 p 0 == 0)=(p%iV 0 == 0)):=by
   show _=_;rw [eX 0 p 0 rfl (by omega) hpp.1 (by omega)];rfl
  go_enter Tryz.func217,Tryz.ntmps217;go_wp2_with (first
   | (go_at_call 212;refine ((HP _).out).mono ?_;rintro e w' ⟨rfl,rfl⟩)
   | (go_at_call 118;refine (dB 0 0 _ (by omega)).mono ?_;rintro e w' ⟨rfl,rfl⟩))
  go_ret;exact ⟨aD H.out,rfl⟩
 ·have H:Hid ((bits .and .u64 p 7 == 0)=(p%iV 1 == 0)):=by
   show _=_;rw [eX 3 p 7 rfl (by omega) hpp.1 (by omega)];rfl
  go_enter Tryz.func217,Tryz.ntmps217;go_wp2_with (first
   | (go_at_call 212;refine ((HP _).out).mono ?_;rintro e w' ⟨rfl,rfl⟩)
   | (go_at_call 118;refine (dB 3 7 _ (by omega)).mono ?_;rintro e w' ⟨rfl,rfl⟩))
  go_ret;exact ⟨aD H.out,rfl⟩
 ·have H:Hid ((bits .and .u64 p 63 == 0)=(p%iV 2 == 0)):=by
   show _=_;rw [eX 6 p 63 rfl (by omega) hpp.1 (by omega)];rfl
  go_enter Tryz.func217,Tryz.ntmps217;go_wp2_with (first
   | (go_at_call 212;refine ((HP _).out).mono ?_;rintro e w' ⟨rfl,rfl⟩)
   | (go_at_call 118;refine (dB 6 63 _ (by omega)).mono ?_;rintro e w' ⟨rfl,rfl⟩))
  go_ret;exact ⟨aD H.out,rfl⟩
theorem dJ (l:Int) (w:World):
 Calls Tryz.prog 162 #[VI l] w fun e w'=>e=.returned (.bool (decide (0<=l∧l<=2)))∧w'=w:=by
 by_cases h:0<=l
 ·go_enter Tryz.func162,Tryz.ntmps162;go_wp2;go_ret;exact ⟨aD (by simp [h]),rfl⟩
 ·go_enter Tryz.func162,Tryz.ntmps162;go_wp2;go_ret;exact ⟨aD (by simp;omega),rfl⟩
theorem pN (x level:Int) (w:World) (h0:0<=x) (h1:x<=18446744073709551615):
 Calls Tryz.prog 211 #[VU x,VI level] w fun e w'=>e=.returned (VI (bH x level))∧w'=w:=by
 by_cases hlev:0<=level∧level<=2
 ·have hk:decide (0<=level∧level<=2)=true:=by simpa using hlev
  have HK:=hid hk;have hl:level=0∨level=1∨level=2:=by omega
  clear hk hlev;have HR:=hid (Dj x h0 h1);have HU:=hid (Dk x h0 h1);cases hs:sF x
  ·have HE:Hid (bH x level=0):=by
    show _=_;simp only [bH];rw [if_pos];simp only [sF] at hs;cases hv:bX x 1
    ·simp
    ·rw [hv] at hs;by_cases hb:0<x/18014398509481984%1024
     ·simp [hb]
     ·have hb':x/18014398509481984%1024=0:=by omega
      rw [hb'] at hs |-;simp at hs;simp [hs]
   go_enter Tryz.func211,Tryz.ntmps211;go_wp2_with (first
    | (go_at_call 162;refine (dJ level _).mono ?_;rintro e w' ⟨rfl,rfl⟩;rw [HK.out])
    | (go_at_call 216;refine (ko x _ h0 h1).mono ?_;rintro e w' ⟨rfl,rfl⟩;rw [hs]))
   go_ret;exact ⟨cC HE.out.symm,rfl⟩
  ·have hn:¬(level<0∨2<level∨bX x 1=false∨0<x/18014398509481984%1024∨(bX x 4=true∧bX x 2=false)):=by
    simp only [sF,Bool.and_eq_true,beq_iff_eq,Bool.not_eq_true',Bool.and_eq_false_iff,Bool.not_eq_false'] at hs;obtain ⟨⟨a1,a2⟩,a3⟩:=hs;rw [a1,a2];rcases a3 with a3 | a3
    ·simp [a3];omega
    ·simp [a3];omega
   have HE:Hid (bH x level=if bX x 2=false∧bX x 4=false∧bX x 8=false then (if level=0∨bX x 16=true∨bX x 64=true∨bX x 128=true then 0 else 1) else if 0<dI x%iV level then 0 else 2):=by
    show _=_;rw [bH,if_neg hn]
   clear hn;cases hr:(bX x 2 || bX x 4 || bX x 8)
   ·simp only [Bool.or_eq_false_iff] at hr;have HE2:Hid (bH x level=if level=0∨bX x 16=true∨bX x 64=true∨bX x 128=true then 0 else 1):=by
     show _=_;rw [HE.out,if_pos ⟨hr.1.1,hr.1.2,hr.2⟩]
    clear HE;have HR':Hid (yi x 14=false):=by show _=_;rw [HR.out,hr.1.1,hr.1.2,hr.2];rfl
    clear HR hr;by_cases hz:level=0
    ·subst hz;go_enter Tryz.func211,Tryz.ntmps211;go_wp2_with (first
      | (go_at_call 162;refine (dJ 0 _).mono ?_;rintro e w' ⟨rfl,rfl⟩;rw [HK.out])
      | (go_at_call 216;refine (ko x _ h0 h1).mono ?_;rintro e w' ⟨rfl,rfl⟩;rw [hs])
      | (go_at_call 164;refine (dR x _ _).mono ?_;rintro e w' ⟨rfl,rfl⟩;rw [HR'.out]))
     go_ret;exact ⟨cC (by rw [HE2.out];simp),rfl⟩
    ·have hz':(level == 0)=false:=by simpa using hz
     cases hu:(bX x 16 || bX x 64 || bX x 128)
     ·have HE3:Hid (bH x level=1):=by
       show _=_;simp only [Bool.or_eq_false_iff] at hu;rw [HE2.out,hu.1.1,hu.1.2,hu.2];simp [hz]
      go_enter Tryz.func211,Tryz.ntmps211;go_wp2_with (first
       | (go_at_call 162;refine (dJ level _).mono ?_;rintro e w' ⟨rfl,rfl⟩;rw [HK.out])
       | (go_at_call 216;refine (ko x _ h0 h1).mono ?_;rintro e w' ⟨rfl,rfl⟩;rw [hs])
       | (go_at_call 164;refine (dR x _ _).mono ?_;rintro e w' ⟨rfl,rfl⟩;first | rw [HR'.out] | rw [HU.out,hu]))
      go_ret;exact ⟨cC HE3.out.symm,rfl⟩
     ·have HE3:Hid (bH x level=0):=by
       show _=_;simp only [Bool.or_eq_true] at hu;rw [HE2.out,if_pos];rcases hu with (hu | hu) | hu <;> simp [hu]
      go_enter Tryz.func211,Tryz.ntmps211;go_wp2_with (first
       | (go_at_call 162;refine (dJ level _).mono ?_;rintro e w' ⟨rfl,rfl⟩;rw [HK.out])
       | (go_at_call 216;refine (ko x _ h0 h1).mono ?_;rintro e w' ⟨rfl,rfl⟩;rw [hs])
       | (go_at_call 164;refine (dR x _ _).mono ?_;rintro e w' ⟨rfl,rfl⟩;first | rw [HR'.out] | rw [HU.out,hu]))
      go_ret;exact ⟨cC HE3.out.symm,rfl⟩
   ·have HR':Hid (yi x 14=true):=by show _=_;rw [HR.out,hr]
    have HE2:Hid (bH x level=if 0<dI x%iV level then 0 else 2):=by
     show _=_;rw [HE.out,if_neg];rintro ⟨q1,q2,q3⟩;rw [q1,q2,q3] at hr;cases hr
    clear HE HR hr;have hnn:0<=dI x%iV level:=by
     apply Int.emod_nonneg;rcases hl with rfl | rfl | rfl <;> decide
    cases ha:(dI x%iV level == 0)
    ·have HE3:Hid (bH x level=0):=by
      show _=_;have:dI x%iV level≠0:=by simpa using ha
      rw [HE2.out,if_pos (by omega)]
     clear hnn;go_enter Tryz.func211,Tryz.ntmps211;go_wp2_with (first
      | (go_at_call 162;refine (dJ level _).mono ?_;rintro e w' ⟨rfl,rfl⟩;rw [HK.out])
      | (go_at_call 216;refine (ko x _ h0 h1).mono ?_;rintro e w' ⟨rfl,rfl⟩;rw [hs])
      | (go_at_call 164;refine (dR x _ _).mono ?_;rintro e w' ⟨rfl,rfl⟩;rw [HR'.out])
      | (go_at_call 217;refine (sG x level _ h0 h1 hl).mono ?_;rintro e w' ⟨rfl,rfl⟩;rw [ha]))
     go_ret;exact ⟨cC HE3.out.symm,rfl⟩
    ·have HE3:Hid (bH x level=2):=by
      show _=_;have:dI x%iV level=0:=by simpa using ha
      rw [HE2.out,if_neg (by omega)]
     clear hnn;go_enter Tryz.func211,Tryz.ntmps211;go_wp2_with (first
      | (go_at_call 162;refine (dJ level _).mono ?_;rintro e w' ⟨rfl,rfl⟩;rw [HK.out])
      | (go_at_call 216;refine (ko x _ h0 h1).mono ?_;rintro e w' ⟨rfl,rfl⟩;rw [hs])
      | (go_at_call 164;refine (dR x _ _).mono ?_;rintro e w' ⟨rfl,rfl⟩;rw [HR'.out])
      | (go_at_call 217;refine (sG x level _ h0 h1 hl).mono ?_;rintro e w' ⟨rfl,rfl⟩;rw [ha]))
     go_ret;exact ⟨cC HE3.out.symm,rfl⟩
 ·have HK:Hid (decide (0<=level∧level<=2)=false):=by show _=_;simpa using hlev
  have HE:Hid (bH x level=0):=by
   show _=_;rw [bH,if_pos (by omega)]
  clear hlev;go_enter Tryz.func211,Tryz.ntmps211;go_wp2_with (go_at_call 162;refine (dJ level _).mono ?_;rintro e w' ⟨rfl,rfl⟩;rw [HK.out]);go_ret;exact ⟨cC HE.out.symm,rfl⟩
end Go.Proofs.YtkenjknmfhoppaaGreat
