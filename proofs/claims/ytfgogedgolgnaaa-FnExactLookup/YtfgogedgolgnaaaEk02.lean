import Derived.Test.YtfgogedgolgnaaaEk01
namespace Go.Proofs.Ytfgogedgolgnaaa
open Go.RowKit
set_option linter.unusedVariables false
set_option maxHeartbeats 6400000
set_option maxRecDepth 20000
section
attribute [local go_sem ↓] Go.wp_at_zero Go.wp_at_succ
def ad:List EntM->List Value
 | []=>[]
 | e::r=>bx e++ad r
def TlbAt (w:World) (v:Value) (t:TlbM):Prop:=
 ∃a cap,v=.agg #[.int .i64 t.sets,.int .i64 t.ways,.slice a t.es.length cap]∧RowC w a t.es.length 6 (ad t.es)∧(∀e∈t.es,aO e)∧
  (-9223372036854775808<=t.sets∧t.sets<=9223372036854775807)∧(-9223372036854775808<=t.ways∧t.ways<=9223372036854775807)∧t.es.length<=1048576∧t.es.length<=cap∧cap<=9223372036854775807∧(a=none->t.es.length=0∧cap=0)∧(∀q,a=some q->q.spot=none)
theorem aQ:∀es:List EntM,(ad es).length=es.length*6
 | []=>rfl
 | e::r=>by simp [ad,bx,aQ r];omega
theorem cw:∀(es:List EntM) (i j:Nat) (hi:i<es.length),j<6->(ad es)[i*6+j]?=(bx es[i])[j]?
 | e::r,0,j,hi,hj=>by
  simp only [ad,List.getElem_cons_zero,Nat.zero_mul,Nat.zero_add];rw [List.getElem?_append_left (by simp [bx];exact hj)]
 | e::r,i+1,j,hi,hj=>by
  simp only [ad,List.getElem_cons_succ];rw [List.getElem?_append_right (by simp [bx];omega)];have:(i+1)*6+j-(bx e).length=i*6+j:=by simp [bx];omega
  rw [this];exact cw r i j (by simpa using hi) hj
def cz (t:TlbM):Bool:=decide ((t.sets=1∨t.sets=2∨t.sets=4∨t.sets=8)∧1<=t.ways∧t.ways<=4∧(t.es.length:Int)=t.sets*t.ways)
def al (t:TlbM) (p:Bool) (i:Nat) (e:EntM):Bool:=
 (e.valid == false && e.level == 0 && e.tag == 0 && e.asid == 0 && e.glob == false && e.pte == 0) || (ak e p && (e.tag%t.sets == (i:Int)/t.ways))
def aP (t:TlbM) (p:Bool):Nat->List EntM->Bool
 | _,[]=>true
 | i,e::r=>al t p i e && aP t p (i+1) r
def an (t:TlbM) (p:Bool):Bool:=cz t && aP t p 0 t.es
theorem bh (t:TlbM) (p:Bool):∀(es:List EntM) (i:Nat),(∀j x,es[j]?=some x->al t p (i+j) x=true)->aP t p i es=true
 | [],i,h=>rfl
 | e::r,i,h=>by
  simp only [aP,Bool.and_eq_true];refine ⟨by simpa using h 0 e rfl,bh t p r (i+1) (fun j x hx=>?_)⟩;have:=h (j+1) x (by simpa using hx);rw [show i+1+j=i+(j+1) by omega];exact this
theorem bb (t:TlbM) (p:Bool):∀(es:List EntM) (i j:Nat) (x:EntM),es[j]?=some x->al t p (i+j) x=false->aP t p i es=false
 | e::r,i,0,x,hx,h=>by
  simp at hx;subst hx;simp only [aP,Nat.add_zero] at h |-;rw [h];rfl
 | e::r,i,j+1,x,hx,h=>by
  simp only [aP];rw [bb t p r (i+1) j x (by simpa using hx) (by rw [show i+1+j=i+(j+1) by omega];exact h),Bool.and_false]
theorem cA {x:EntM} {p:Bool} (h:ak x p=true):x.tag<512:=by
 simp only [ak,Bool.and_eq_true,decide_eq_true_eq] at h;have h1:=h.1.1.1.2;unfold cI at h1;split at h1
 ·exact h1
 ·split at h1 <;> omega
theorem av {w:World} {b off n:Nat} {es:List EntM} (h:RowC w (some ⟨b,off,none⟩) n 6 (ad es)) (hn:es.length=n) (k:Nat) (x:EntM) (hx:es[k]?=some x) (j:Nat) (v:Value) (hj:j<6) (hv:(bx x)[j]?=some v):
 w.cell? ⟨b,off+(k*6+j),none⟩=some v:=by
 have hk:k<es.length:=(List.getElem?_eq_some_iff.1 hx).1;rcases h.2 with h0 | ⟨b',off',e,_,hc⟩
 ·omega
 ·simp at e;obtain ⟨rfl,rfl⟩:=e;refine hc _ _ ?_;rw [cw es k j hk hj];rw [List.getElem?_eq_getElem hk] at hx;simp at hx;rw [hx];exact hv
theorem eu (b off:Nat) (cap:Nat) (ways:Int) (es:List EntM) (n:Nat) (p:Bool) (w:World) (hr:RowC w (some ⟨b,off,none⟩) n 6 (ad es)) (he:∀e∈es,aO e) (hl:n<=1048576) (hN:es.length=n)
 (hw:1<=ways) (hw':ways<=4) (hn:(n:Int)=4*ways):
  Calls Try.prog 9 #[.agg #[.int .i64 4,.int .i64 ways,.slice (some ⟨b,off,none⟩) n cap],.bool p] w fun e w'=>e=.returned (.bool (aP ⟨4,ways,es⟩ p 0 es))∧Below w.heap.size w w':=by
 have a1:=aY w #[.int .i64 4,.int .i64 ways,.slice (some ⟨b,off,none⟩) n cap] 29;have hn':((n:Int) != 4*ways)=false:=by rw [bne_eq_false_iff_eq];omega
 have HN:Hid (es.length=n):=hN;have HR:Hid (RowC w (some ⟨b,off,none⟩) n 6 (ad es)):=hr;have HE:Hid (∀e∈es,aO e):=he;obtain ⟨R,hR⟩:∃R,aP ⟨4,ways,es⟩ p 0 es=R:=⟨_,rfl⟩;rw [hR];have HP:Hid (aP ⟨4,ways,es⟩ p 0 es=R):=hR;clear hN hr he hn hR;go_enter Try.func9,Try.ntmps9;go_wp2_with fail;generalize w.alloc (Obj.cells #[.int .i64 4,.int .i64 ways,.slice (some ⟨b,off,none⟩) n cap] 29)=v1 at a1 |-;obtain ⟨l1,c1,n1⟩:=a1;have c10:v1.cell? ⟨w.heap.size,0,none⟩=some (.int .i64 4):=c1 0;have c11:v1.cell? ⟨w.heap.size,1,none⟩=some (.int .i64 ways):=c1 1;have c12:v1.cell? ⟨w.heap.size,2,none⟩=some (.slice (some ⟨b,off,none⟩) n cap):=c1 2;clear c1;go_loopw [5] (fun i wr=>∃k:Nat,k<=n∧i=.int .i64 k∧(∀j x,j<k->es[j]?=some x->al ⟨4,ways,es⟩ p j x=true)∧Below v1.heap.size v1 wr) (fun i _=>n-(intOf i).toNat)
 case atStart=>exact ⟨0,Nat.zero_le _,rfl,fun j x hj=>absurd hj (by omega),Below.refl _ _⟩
 case round=>
  obtain ⟨k,hk,rfl,hall,hb⟩:=hrel;have HA:Hid (∀j x,j<k->es[j]?=some x->al ⟨4,ways,es⟩ p j x=true):=hall;clear hall;have d10:=Below.cell2 hb c10 l1;have d11:=Below.cell2 hb c11 l1;have d12:=Below.cell2 hb c12 l1;have l2:w.heap.size<wr.heap.size:=Nat.lt_of_lt_of_le l1 hb.size;have n1r:=Below.step n1 hb (Nat.le_refl _);by_cases hlt:k<n
  ·have hx:∃x:EntM,es[k]?=some x:=⟨_,List.getElem?_eq_getElem (by have:=HN.out;omega)⟩;obtain ⟨⟨v,lv,tg,asd,gl,pt⟩,hx⟩:=hx;have hok:aO ⟨v,lv,tg,asd,gl,pt⟩:=HE.out _ (List.mem_of_getElem? hx);have HRr:=RowC.keep HR.out n1r;have g0:wr.cell? ⟨b,off+k*6,none⟩=some (.bool v):=av HRr HN.out k _ hx 0 _ (by omega) rfl;have g1:wr.cell? ⟨b,off+k*6+1,none⟩=some (.int .i64 lv):=av HRr HN.out k _ hx 1 _ (by omega) rfl;have g2:wr.cell? ⟨b,off+k*6+2,none⟩=some (.int .u64 tg):=av HRr HN.out k _ hx 2 _ (by omega) rfl;have g3:wr.cell? ⟨b,off+k*6+3,none⟩=some (.int .u64 asd):=av HRr HN.out k _ hx 3 _ (by omega) rfl;have g4:wr.cell? ⟨b,off+k*6+4,none⟩=some (.bool gl):=av HRr HN.out k _ hx 4 _ (by omega) rfl;have g5:wr.cell? ⟨b,off+k*6+5,none⟩=some (.int .u64 pt):=av HRr HN.out k _ hx 5 _ (by omega) rfl;have HX:Hid (es[k]?=some ⟨v,lv,tg,asd,gl,pt⟩):=hx;have HPf:Hid (al ⟨4,ways,es⟩ p k ⟨v,lv,tg,asd,gl,pt⟩=false->false=R):=fun h=>by rw [<-HP.out];exact (bb _ p es 0 k _ hx (by rw [Nat.zero_add];exact h)).symm
   have HPt:Hid (al ⟨4,ways,es⟩ p k ⟨v,lv,tg,asd,gl,pt⟩=true->∀j x,j<k+1->es[j]?=some x->al ⟨4,ways,es⟩ p j x=true):=fun h j x hj hx'=>by
    by_cases e:j=k
    ·subst e;rw [hx] at hx';cases hx';exact h
    ·exact HA.out j x (by omega) hx'
   clear hx HRr;have a2:=aY wr #[.bool v,.int .i64 lv,.int .u64 tg,.int .u64 asd,.bool gl,.int .u64 pt] 42;go_wp2_with fail;generalize wr.alloc (Obj.cells #[.bool v,.int .i64 lv,.int .u64 tg,.int .u64 asd,.bool gl,.int .u64 pt] 42)=v2 at a2 |-;obtain ⟨l3,c2,n2⟩:=a2;have k0:=aq (c2 0) l3;have k1:=aq (c2 1) l3;have k2:=aq (c2 2) l3;have k3:=aq (c2 3) l3;have k4:=aq (c2 4) l3;have k5:=aq (c2 5) l3;have j0:=aq (Below.cell2 n2 d10 l2) (Nat.lt_trans l2 l3);have j1:=aq (Below.cell2 n2 d11 l2) (Nat.lt_trans l2 l3);have hb2:=Below.step hb n2 (Nat.le_refl _);have n12:=Below.step n1 hb2 (Nat.le_refl _);have ne:=ci v2;clear c2 d10 d11 d12 hb n2 g0 g1 g2 g3 g4 g5 c10 c11 c12 n1r;obtain ⟨gd,hgd⟩:∃gd,ak ⟨v,lv,tg,asd,gl,pt⟩ p=gd:=⟨_,rfl⟩;have HGd:Hid (∀u:Lies v2,Calls Try.prog 30 #[bQ ⟨v,lv,tg,asd,gl,pt⟩,.bool p] u.w fun e w'=>e=.returned (.bool gd)∧Below u.w.heap.size u.w w'):=fun u=>by
    have:=bj ⟨v,lv,tg,asd,gl,pt⟩ p u.w hok;rw [hgd] at this;exact this
   have HGv:Hid (ak ⟨v,lv,tg,asd,gl,pt⟩ p=gd):=hgd;clear hgd;cases v
   ·have hgf:gd=false:=by rw [<-HGv.out];simp [ak]
    subst hgf;by_cases q1n:¬(lv=0)
    ·have q1:(lv == 0)=false:=by simpa using q1n
     have HQ:Hid ((lv == 0)=false):=q1;clear q1n;refine ai (by kernel_rfl) (by kernel_rfl) ?_;repeat (go_big_quiet_step ((go_at_call 30;exact ao _ (HGd.out _))))
     refine wpQuiet_nil ?_;rintro _ ⟨u,rfl⟩;go_wp2_with fail;go_ret;exact ⟨aj (HPf.out (by simp [al,HGv.out,HQ.out])),Below.step n12 u.h (Nat.le_refl _)⟩
    have q1z:lv=0:=Decidable.not_not.1 q1n;subst q1z;clear q1n;by_cases q2n:¬(tg=0)
    ·have q2:(tg == 0)=false:=by simpa using q2n
     have HQ:Hid ((tg == 0)=false):=q2;clear q2n;refine ai (by kernel_rfl) (by kernel_rfl) ?_;repeat (go_big_quiet_step ((go_at_call 30;exact ao _ (HGd.out _))))
     refine wpQuiet_nil ?_;rintro _ ⟨u,rfl⟩;go_wp2_with fail;go_ret;exact ⟨aj (HPf.out (by simp [al,HGv.out,HQ.out])),Below.step n12 u.h (Nat.le_refl _)⟩
    have q2z:tg=0:=Decidable.not_not.1 q2n;subst q2z;clear q2n;by_cases q3n:¬(asd=0)
    ·have q3:(asd == 0)=false:=by simpa using q3n
     have HQ:Hid ((asd == 0)=false):=q3;clear q3n;refine ai (by kernel_rfl) (by kernel_rfl) ?_;repeat (go_big_quiet_step ((go_at_call 30;exact ao _ (HGd.out _))))
     refine wpQuiet_nil ?_;rintro _ ⟨u,rfl⟩;go_wp2_with fail;go_ret;exact ⟨aj (HPf.out (by simp [al,HGv.out,HQ.out])),Below.step n12 u.h (Nat.le_refl _)⟩
    have q3z:asd=0:=Decidable.not_not.1 q3n;subst q3z;clear q3n;cases hgl:gl
    ·subst hgl;by_cases q5n:¬(pt=0)
     ·have q5:(pt == 0)=false:=by simpa using q5n
      have HQ:Hid ((pt == 0)=false):=q5;clear q5n;refine ai (by kernel_rfl) (by kernel_rfl) ?_;repeat (go_big_quiet_step ((go_at_call 30;exact ao _ (HGd.out _))))
      refine wpQuiet_nil ?_;rintro _ ⟨u,rfl⟩;go_wp2_with fail;go_ret;exact ⟨aj (HPf.out (by simp [al,HGv.out,HQ.out])),Below.step n12 u.h (Nat.le_refl _)⟩
     have q5z:pt=0:=Decidable.not_not.1 q5n;subst q5z;clear q5n;refine ai (by kernel_rfl) (by kernel_rfl) ?_;repeat (go_big_quiet_step ((go_at_call 30;exact ao _ (HGd.out _))))
     refine wpQuiet_nil ?_;rintro _ ⟨u,rfl⟩;go_wp2_with fail;go_roundw
     case rel=>exact ⟨k+1,by omega,by go_num,HPt.out (by simp [al]),Below.step hb2 u.h (Nat.le_refl _)⟩
     case measure=>simp [intOf];omega
    ·subst hgl;refine ai (by kernel_rfl) (by kernel_rfl) ?_;repeat (go_big_quiet_step ((go_at_call 30;exact ao _ (HGd.out _))))
     refine wpQuiet_nil ?_;rintro _ ⟨u,rfl⟩;go_wp2_with fail;go_ret;exact ⟨aj (HPf.out (by simp [al,HGv.out])),Below.step n12 u.h (Nat.le_refl _)⟩
   ·cases gd
    ·
     refine ai (by kernel_rfl) (by kernel_rfl) ?_;repeat (go_big_quiet_step ((go_at_call 30;exact ao _ (HGd.out _))))
     refine wpQuiet_nil ?_;rintro _ ⟨u,rfl⟩;go_wp2_with fail;go_ret;exact ⟨aj (HPf.out (by simp [al,HGv.out])),Below.step n12 u.h (Nat.le_refl _)⟩
    ·have htg:tg<512:=cA HGv.out;have htg0:0<=tg:=hok.2.1.1;have hd0:0<=(k:Int)/ways:=Int.ediv_nonneg (by omega) (by omega);have hd1:(k:Int)/ways<=1048576:=Int.le_trans (Int.ediv_le_self _ (by omega)) (by omega);by_cases hq:tg%4=(k:Int)/ways
     ·have hq':(tg%4 != (k:Int)/ways)=false:=by rw [bne_eq_false_iff_eq];exact hq
      have HQ:Hid (tg%4=(k:Int)/ways):=hq;clear hq;refine ai (by kernel_rfl) (by kernel_rfl) ?_;repeat (go_big_quiet_step ((go_at_call 30;exact ao _ (HGd.out _))))
      refine wpQuiet_nil ?_;rintro _ ⟨u,rfl⟩;go_wp2_with fail;go_roundw
      case rel=>exact ⟨k+1,by omega,by go_num,HPt.out (by simp [al,HGv.out,HQ.out]),Below.step hb2 u.h (Nat.le_refl _)⟩
      case measure=>simp [intOf];omega
     ·have hq':(tg%4 != (k:Int)/ways)=true:=by rw [bne_iff_ne];exact hq
      have HQ:Hid (¬tg%4=(k:Int)/ways):=hq;clear hq;refine ai (by kernel_rfl) (by kernel_rfl) ?_;repeat (go_big_quiet_step ((go_at_call 30;exact ao _ (HGd.out _))))
      refine wpQuiet_nil ?_;rintro _ ⟨u,rfl⟩;go_wp2_with fail;go_ret;exact ⟨aj (HPf.out (by simp [al,HQ.out])),Below.step n12 u.h (Nat.le_refl _)⟩
  ·have hkn:k=n:=by omega
   subst hkn;have HT:Hid (true=R):=by
    show true=R;rw [<-HP.out];exact (bh _ p es 0 (fun j x hx=>by rw [Nat.zero_add];exact HA.out j x (by have h1:=(List.getElem?_eq_some_iff.1 hx).1;have h2:=HN.out;omega) hx)).symm
   clear c10 c11 c12 n1 d10 d11;go_wp2_with fail;go_ret;exact ⟨aj HT.out,n1r⟩
end
theorem aa {v:World} {p:Nat} {T:TypeId} {a b c:Value} (h:v.heap[p]?=some (.cells #[a,b,c] T (0,0))):
 (v.cell? ⟨p,0,none⟩=some a∧v.cell? ⟨p,1,none⟩=some b∧v.cell? ⟨p,2,none⟩=some c)∧v.frozen? ⟨p,0,none⟩=false∧v.frozen? ⟨p,1,none⟩=false∧v.frozen? ⟨p,2,none⟩=false:=by
 simp [World.cell?,World.frozen?,h]
theorem gb3 (v:World) (g:Nat) (x y z:Value):v.grownBy (((v.setCell ⟨g,0,none⟩ x).setCell ⟨g,1,none⟩ y).setCell ⟨g,2,none⟩ z) (some g):=
 ap (ap (ap (bi v (some g)) 0 x) 1 y) 2 z
theorem aS {B:Nat} {a w:World} {g:Nat} (h:Below B a w) (hg:B<=g) (x y z:Value):Below B a (((w.setCell ⟨g,0,none⟩ x).setCell ⟨g,1,none⟩ y).setCell ⟨g,2,none⟩ z):=
 ((h.setCell (p:=⟨g,0,none⟩) hg x).setCell (p:=⟨g,1,none⟩) hg y).setCell (p:=⟨g,2,none⟩) hg z
theorem aD {e:TypeId} {size:Nat} {w:World} {base base' n:Nat} {v:Value} {cs:List Value} (h:w.ownsRow base e size v n cs) (hb:base'<=base):w.ownsRow base' e size v n cs:=by
 obtain ⟨h1,h2⟩:=h;refine ⟨h1,?_⟩;rcases h2 with h2 | ⟨g,cap,cur,h2,hb',r⟩
 ·exact .inl h2
 ·exact .inr ⟨g,cap,cur,h2,by omega,r⟩
theorem aR {e:TypeId} {size:Nat} {w w':World} {base n r:Nat} {v:Value} {cs:List Value} (h:w.ownsRow base e size v n cs) (hg:w.grownBy w' (some r)) (hr:r<base):w'.ownsRow base e size v n cs:=by
 refine h.kept hg ?_;rcases h.2 with ⟨rfl,_⟩ | ⟨g,cap,cur,rfl,hb',_⟩
 ·exact .inl rfl
 ·refine .inr ?_;simp [Value.ownBlock];omega
theorem ah {e:TypeId} {size:Nat} {w w':World} {base n:Nat} {v:Value} {cs:List Value} (h:w.ownsRow base e size v n cs) (hb:Below w.heap.size w w'):w'.ownsRow base e size v n cs:=by
 obtain ⟨h1,h2⟩:=h;refine ⟨h1,?_⟩;rcases h2 with h2 | ⟨g,cap,cur,h2,hb',hg,r⟩
 ·exact .inl h2
 ·refine .inr ⟨g,cap,cur,h2,hb',?_,r⟩;exact aF hg hb (Array.getElem?_eq_some_iff.1 hg).1
theorem bV {e:TypeId} {size:Nat} {w:World} {base n:Nat} {v:Value} {cs:List Value} (h:w.ownsRow base e size v n cs):w.drew.ownsRow base e size v n cs:=h
def CurAt (e:TypeId) (w:World) (g m:Nat) (cs:List Value):Prop:=cs.length=m∧∃cur,w.heap[g]?=some (.cells cur e (0,0))∧cur.toList.take m=cs
theorem CurAt.lt {e:TypeId} {w:World} {g m:Nat} {cs:List Value} (h:CurAt e w g m cs):g<w.heap.size:=by
 obtain ⟨_,cur,h2,_⟩:=h;exact (Array.getElem?_eq_some_iff.1 h2).1
theorem CurAt.cell {e:TypeId} {w:World} {g m:Nat} {cs:List Value} (h:CurAt e w g m cs) (j:Nat) (u:Value) (hj:cs[j]?=some u):w.cell? ⟨g,j,none⟩=some u:=by
 obtain ⟨h1,cur,h2,h3⟩:=h;subst h3;rw [List.getElem?_take] at hj;split at hj
 ·simp only [World.cell?,h2];simpa using hj
 ·cases hj
theorem CurAt.free {e:TypeId} {w:World} {g m:Nat} {cs:List Value} (h:CurAt e w g m cs) (j:Nat):w.frozen? ⟨g,j,none⟩=false:=by
 obtain ⟨h1,cur,h2,h3⟩:=h;simp [World.frozen?,h2]
theorem CurAt.of_own {e:TypeId} {size:Nat} {w:World} {base g n cap:Nat} {cs:List Value} (h:w.ownsRow base e size (.slice (some ⟨g,0,none⟩) n cap) n cs):CurAt e w g (n*size) cs∧base<=g:=by
 obtain ⟨h1,h2⟩:=h;rcases h2 with ⟨h2,_⟩ | ⟨g',cap',cur,h2,hb,hg,_,_,_,ht⟩
 ·cases h2
 ·cases h2;exact ⟨⟨h1,cur,hg,ht⟩,hb⟩
theorem aU {e:TypeId} {size:Nat} {w:World} {base n:Nat} {a:Option Addr} {cap:Nat} {cs:List Value} (h:w.ownsRow base e size (.slice a n cap) n cs):RowC w a n size cs:=by
 cases a with
 | none=>
  obtain ⟨h1,h2⟩:=h;rcases h2 with ⟨_,h2⟩ | ⟨g',cap',cur,h2,_⟩
  ·subst h2;exact ⟨h1,.inl rfl⟩
  ·cases h2
 | some q=>
  have hq:q=⟨q.block,0,none⟩:=by
   obtain ⟨h1,h2⟩:=h;rcases h2 with ⟨h2,_⟩ | ⟨g',cap',cur,h2,_⟩
   ·cases h2
   ·cases h2;rfl
  rw [hq] at h |-;have:=CurAt.of_own h;refine ⟨h.1,.inr ⟨q.block,0,rfl,this.1.lt,fun i u hu=>?_⟩⟩;rw [Nat.zero_add];exact this.1.cell i u hu
theorem aw {e:TypeId} {size:Nat} {w:World} {base n cap:Nat} {q:Addr} {cs:List Value} (h:w.ownsRow base e size (.slice (some q) n cap) n cs):q=⟨q.block,0,none⟩∧base<=q.block∧q.block<w.heap.size:=by
 rcases h.2 with ⟨h2,_⟩ | ⟨g',cap',cur,h2,hb,hg,_⟩
 ·cases h2
 ·cases h2;exact ⟨rfl,hb,(Array.getElem?_eq_some_iff.1 hg).1⟩
theorem bA {a b c:World} {r:Option Nat} (h:a.grownBy b r) (k:b.grownBy c r):a.grownBy c r:=
 ⟨k.os.trans h.os,k.tape.trans h.tape,k.output.trans h.output,Nat.le_trans h.size k.size,fun i hi hn=>(k.block i (Nat.lt_of_lt_of_le hi h.size) hn).trans (h.block i hi hn)⟩
theorem ab {w w':World} {b:Nat} {o:Obj} (h:Hid (w.heap[b]?=some o)) (n:Below w.heap.size w w'):Hid (w'.heap[b]?=some o):=aF h.out n (Array.getElem?_eq_some_iff.1 h.out).1
structure FenceM where
 hasVa:Bool
 va:Int
 hasAsid:Bool
 asid:Int
def bB (f:FenceM) (level tag asid:Int) (glob:Bool):Bool:=
 !(f.hasVa && (!bm f.va || tag != bC f.va level)) && (!f.hasAsid || (!glob && asid == f.asid))
def ay (f:FenceM) (e:EntM):EntM:=if (e.valid && bB f e.level e.tag e.asid e.glob)=true then aC else e
def cB (es:List EntM) (first:Nat):Nat->Nat->Option Nat
 | _,0=>none
 | w,left+1=>if (es[first+w]?.getD aC).valid=false then some w else cB es first (w+1) left
section
attribute [local go_sem ↓] Go.wp_at_zero Go.wp_at_succ
theorem Try.infoEnt:(Try.prog.info? 42).map (fun i=>(i.zero,i.size,i.bytes))=some (some (.agg #[.bool false,.int .i64 0,.int .u64 0,.int .u64 0,.bool false,.int .u64 0]),6,48):=by kernel_rfl
theorem cT:∀es:List EntM,∀u∈ad es,u.oneCell'=true
 | [],u,h=>by simp [ad] at h
 | e::r,u,h=>by
  simp only [ad,List.mem_append] at h;rcases h with h | h
  ·simp [bx] at h;rcases h with rfl | rfl | rfl | rfl | rfl | rfl <;> rfl
  ·exact cT r u h
def TlbOwn (base:Nat) (w:World) (v:Value) (t:TlbM):Prop:=
 ∃g cap,v=.agg #[.int .i64 t.sets,.int .i64 t.ways,.slice (some ⟨g,0,none⟩) t.es.length cap]∧w.ownsRow base 42 6 (.slice (some ⟨g,0,none⟩) t.es.length cap) t.es.length (ad t.es)
theorem dr (v:Value) (t:TlbM) (w:World) (h:TlbAt w v t):
 Calls Try.prog 39 #[v] w fun e w'=>(∃x,e=.returned x∧TlbOwn w.heap.size w' x t)∧Below w.heap.size w w':=by
 have HT:Hid (TlbAt w v t):=h;obtain ⟨a,cap,rfl,hr,_,_,_,hl,hlc,hcm,hnil,hsp⟩:=h;obtain ⟨sets,ways,es⟩:=t;obtain ⟨n,hn⟩:∃n,es.length=n:=⟨_,rfl⟩;simp only at hr hl hlc hnil |-;rw [hn] at hr hl hlc hnil |-;have n1:=((Below.refl w.heap.size w).alloc (Nat.le_refl _) (Obj.cells #[.int .i64 sets,.int .i64 ways,.slice a n cap] 29)).alloc (by simp) (Obj.cells #[.int .i64 0,.int .i64 0,.slice none 0 0] 29);have HR1:Hid (RowC ((w.alloc (Obj.cells #[.int .i64 sets,.int .i64 ways,.slice a n cap] 29)).alloc (Obj.cells #[.int .i64 0,.int .i64 0,.slice none 0 0] 29)) a n 6 (ad es)):=hr.keep n1;have H1:Hid (((w.alloc (Obj.cells #[.int .i64 sets,.int .i64 ways,.slice a n cap] 29)).alloc (Obj.cells #[.int .i64 0,.int .i64 0,.slice none 0 0] 29)).heap[w.heap.size]?=some (.cells #[.int .i64 sets,.int .i64 ways,.slice a n cap] 29 (0,0))):=by
  show _=_;rw [heap_alloc_old _ _ (by simp)];exact heap_alloc_new w _
 have H2:Hid (((w.alloc (Obj.cells #[.int .i64 sets,.int .i64 ways,.slice a n cap] 29)).alloc (Obj.cells #[.int .i64 0,.int .i64 0,.slice none 0 0] 29)).heap[w.heap.size+1]?=some (.cells #[.int .i64 0,.int .i64 0,.slice none 0 0] 29 (0,0))):=by
  have:=heap_alloc_new (w.alloc (Obj.cells #[.int .i64 sets,.int .i64 ways,.slice a n cap] 29)) (Obj.cells #[.int .i64 0,.int .i64 0,.slice none 0 0] 29);simp only [World.size_alloc] at this;exact this
 have l1:w.heap.size+1<((w.alloc (Obj.cells #[.int .i64 sets,.int .i64 ways,.slice a n cap] 29)).alloc (Obj.cells #[.int .i64 0,.int .i64 0,.slice none 0 0] 29)).heap.size:=by simp
 have HN:Hid (a=none->n=0∧cap=0):=hnil;have HSp:Hid (∀q,a=some q->q.spot=none):=hsp;clear hr hnil hsp HT;go_enter Try.func39,Try.ntmps39;go_wp2_with fail;generalize ((w.alloc (Obj.cells #[.int .i64 sets,.int .i64 ways,.slice a n cap] 29)).alloc (Obj.cells #[.int .i64 0,.int .i64 0,.slice none 0 0] 29))=v1 at n1 HR1 H1 H2 l1 |-;obtain ⟨⟨c0,c1,c2⟩,_,_,_⟩:=aa H1.out;obtain ⟨⟨d0,d1,d2⟩,e0,e1,e2⟩:=aa H2.out;have ne1:v1.heap.size≠w.heap.size:=by omega
 have ne2:w.heap.size≠v1.heap.size:=by omega
 have ne3:v1.heap.size≠w.heap.size+1:=by omega
 have ne4:w.heap.size+1≠v1.heap.size:=by omega
 have n2:Below v1.heap.size v1 (v1.alloc (Obj.cells #[] 42)).drew:=((Below.refl v1.heap.size v1).alloc (Nat.le_refl _) (Obj.cells #[] 42)).drew;go_region_held3 (fun w'=>w'.cell? ⟨w.heap.size,0,none⟩=some (.int .i64 sets)∧w'.cell? ⟨w.heap.size,1,none⟩=some (.int .i64 ways)∧w'.cell? ⟨w.heap.size,2,none⟩=some (.slice a n cap)) (go_keep)
  (first
   | (refine dG _ (by rfl) (.tmp 7) (.tmp 9) 27 (by rfl) 42 Try.underlying27 (.agg #[.bool false,.int .i64 0,.int .u64 0,.int .u64 0,.bool false,.int .u64 0]) 6 48 Try.infoEnt (by rfl) (by decide) v1.heap.size v1.heap.size 0 0 [] (by rfl) (OwnC.new 42 6 v1.drew [] 0 (by rfl) (by decide)) a n cap (ad es) (by rfl) HN.out HSp.out (RowC.keep HR1.out n2) (cT es) (by omega) (by omega) v1.heap.size v1 n2 (Nat.le_refl _) ?_;intro g3 c3 v3 o3 n3;have k1:=aa (aF H1.out n3 (by omega));have k2:=aa (aF H2.out n3 l1);obtain ⟨⟨q0,q1,q2⟩,_,_,_⟩:=k1;obtain ⟨⟨j0,j1,j2⟩,i0,i1,i2⟩:=k2;have l3:=n3.size;have O3:Hid (OwnC 42 6 v3 v1.heap.size g3 (0+n) c3 ([]++ad es)):=o3;clear o3))
 go_wp2_with fail;have O4:v3.ownsRow v1.heap.size 42 6 (.slice (some ⟨g3,0,none⟩) n c3) n (ad es):=by
  have:=O3.out;rw [Nat.zero_add,List.nil_append] at this;exact this
 refine bodyPost_ret (v:=.agg #[.int .i64 sets,.int .i64 ways,.slice (some ⟨g3,0,none⟩) n c3]) (by simp [results,Try.results39,go_sem,j0,j1,j2]) rfl ⟨⟨_,rfl,g3,c3,by rw [hn],?_⟩,aS (Below.step n1 n3 (Nat.le_refl _)) (by omega) _ _ _⟩;rw [hn];exact aD (aR O4 (gb3 v3 (w.heap.size+1) _ _ _) l1) (by omega)
theorem TlbOwn.row {base:Nat} {w:World} {v:Value} {t:TlbM} (h:TlbOwn base w v t):∃g cap,v=.agg #[.int .i64 t.sets,.int .i64 t.ways,.slice (some ⟨g,0,none⟩) t.es.length cap]∧RowC w (some ⟨g,0,none⟩) t.es.length 6 (ad t.es)∧base<=g∧g<w.heap.size:=by
 obtain ⟨g,cap,rfl,ho⟩:=h;have:=aw ho;exact ⟨g,cap,rfl,aU ho,this.2.1,this.2.2⟩
theorem TlbOwn.keep {base:Nat} {w w':World} {v:Value} {t:TlbM} (h:TlbOwn base w v t) (hb:Below w.heap.size w w'):TlbOwn base w' v t:=by
 obtain ⟨g,cap,rfl,ho⟩:=h;exact ⟨g,cap,rfl,ah ho hb⟩
def bZ (t:TlbM):Prop:=
 (∀e∈t.es,aO e)∧(-9223372036854775808<=t.sets∧t.sets<=9223372036854775807)∧(-9223372036854775808<=t.ways∧t.ways<=9223372036854775807)∧t.es.length<=1048576
theorem TlbAt.ok {w:World} {v:Value} {t:TlbM} (h:TlbAt w v t):bZ t:=by
 obtain ⟨a,cap,_,_,h1,h2,h3,h4,_⟩:=h;exact ⟨h1,h2,h3,h4⟩
theorem TlbOwn.at {base:Nat} {w:World} {v:Value} {t:TlbM} (h:TlbOwn base w v t) (hk:bZ t):TlbAt w v t:=by
 obtain ⟨g,cap,rfl,ho⟩:=h;have hr:=aU ho;rcases ho.2 with ⟨h2,_⟩ | ⟨g',cap',cur,h2,hb,hg,hc1,hc2,_⟩
 ·cases h2
 ·cases h2;exact ⟨some ⟨g,0,none⟩,cap,rfl,hr,hk.1,hk.2.1,hk.2.2.1,hk.2.2.2,hc1,by unfold maxLen at hc2;omega,(by intro h;cases h),(by intro q hq;cases hq;rfl)⟩
end
section
attribute [local go_sem ↓] Go.wp_at_zero Go.wp_at_succ
def dZ (f:FenceM):Value:=.agg #[.bool f.hasVa,.int .u64 f.va,.bool f.hasAsid,.int .u64 f.asid]
theorem ea (f:FenceM) (level tag asid:Int) (glob:Bool) (w:World) (h0:0<=f.va) (h1:f.va<=18446744073709551615) (hl0:0<=level) (hl2:level<=2):
 Calls Try.prog 46 #[dZ f,.int .i64 level,.int .u64 tag,.int .u64 asid,.bool glob] w fun e w'=>e=.returned (.bool (bB f level tag asid glob))∧Below w.heap.size w w':=by
 obtain ⟨hv,va,ha,fa⟩:=f;simp only at h0 h1;unfold dZ;simp only;have n1:=(Below.refl w.heap.size w).alloc (Nat.le_refl _) (Obj.cells #[.bool hv,.int .u64 va,.bool ha,.int .u64 fa] 49);obtain ⟨cn,hcn⟩:∃cn,bm va=cn:=⟨_,rfl⟩;obtain ⟨tv,htv⟩:∃tv,bC va level=tv:=⟨_,rfl⟩;have HC:Hid (∀w:World,Calls Try.prog 79 #[.int .u64 va] w fun e w'=>e=.returned (.bool cn)∧∃n,w'=w.drewN n):=fun w=>by
  have:=cZ va w h0 h1;rw [hcn] at this;exact this
 have HT:Hid (∀w:World,Calls Try.prog 72 #[.int .u64 va,.int .i64 level] w fun e w'=>e=.returned (.int .u64 tv)∧∃n,w'=w.drewN n):=fun w=>by
  have:=ev va level w h0 h1 hl0 hl2;rw [htv] at this;exact this
 obtain ⟨R,hR⟩:∃R,bB ⟨hv,va,ha,fa⟩ level tag asid glob=R:=⟨_,rfl⟩;rw [hR];have HR:Hid (R=(!(hv && (!cn || tag != tv)) && (!ha || (!glob && asid == fa)))):=by
  show _=_;rw [<-hR,<-hcn,<-htv];rfl
 clear hR hcn htv;cases hv
 ·cases ha <;> cases glob;all_goals
   go_enter Try.func46,Try.ntmps46;go_wp2_with fail;go_ret;exact ⟨aj (by rw [HR.out];simp),n1⟩
 ·cases cn
  ·go_enter Try.func46,Try.ntmps46;go_wp2_with (go_at_call 79;refine (HC.out _).mono ?_;rintro e w' ⟨rfl,nq,rfl⟩);go_ret;exact ⟨aj (by rw [HR.out];simp),below_drewN n1 _⟩
  ·cases ht:(tag != tv)
   ·cases ha <;> cases glob;all_goals
     go_enter Try.func46,Try.ntmps46;go_wp2_with (first
      | (go_at_call 79;refine (HC.out _).mono ?_;rintro e w' ⟨rfl,nq,rfl⟩)
      | (go_at_call 72;refine (HT.out _).mono ?_;rintro e w' ⟨rfl,nr,rfl⟩))
     go_ret;exact ⟨aj (by rw [HR.out,ht];simp),below_drewN n1 (nq+nr)⟩
   ·go_enter Try.func46,Try.ntmps46;go_wp2_with (first
     | (go_at_call 79;refine (HC.out _).mono ?_;rintro e w' ⟨rfl,nq,rfl⟩)
     | (go_at_call 72;refine (HT.out _).mono ?_;rintro e w' ⟨rfl,nr,rfl⟩))
    go_ret;exact ⟨aj (by rw [HR.out,ht];simp),below_drewN n1 (nq+nr)⟩
end
section
attribute [local go_sem ↓] Go.wp_at_zero Go.wp_at_succ
theorem eF (b off:Nat) (cap:Nat) (ways:Int) (es:List EntM) (n:Nat) (p:Bool) (w:World) (hr:RowC w (some ⟨b,off,none⟩) n 6 (ad es)) (he:∀e∈es,aO e) (hl:n<=1048576) (hN:es.length=n)
 (hw:1<=ways) (hw':ways<=4) (hn:(n:Int)=1*ways):
  Calls Try.prog 9 #[.agg #[.int .i64 1,.int .i64 ways,.slice (some ⟨b,off,none⟩) n cap],.bool p] w fun e w'=>e=.returned (.bool (aP ⟨1,ways,es⟩ p 0 es))∧Below w.heap.size w w':=by
 have a1:=aY w #[.int .i64 1,.int .i64 ways,.slice (some ⟨b,off,none⟩) n cap] 29;have hn':((n:Int) != ways)=false:=by rw [bne_eq_false_iff_eq];omega
 have HN:Hid (es.length=n):=hN;have HR:Hid (RowC w (some ⟨b,off,none⟩) n 6 (ad es)):=hr;have HE:Hid (∀e∈es,aO e):=he;obtain ⟨R,hR⟩:∃R,aP ⟨1,ways,es⟩ p 0 es=R:=⟨_,rfl⟩;rw [hR];have HP:Hid (aP ⟨1,ways,es⟩ p 0 es=R):=hR;clear hN hr he hn hR;go_enter Try.func9,Try.ntmps9;go_wp2_with fail;generalize w.alloc (Obj.cells #[.int .i64 1,.int .i64 ways,.slice (some ⟨b,off,none⟩) n cap] 29)=v1 at a1 |-;obtain ⟨l1,c1,n1⟩:=a1;have c10:v1.cell? ⟨w.heap.size,0,none⟩=some (.int .i64 1):=c1 0;have c11:v1.cell? ⟨w.heap.size,1,none⟩=some (.int .i64 ways):=c1 1;have c12:v1.cell? ⟨w.heap.size,2,none⟩=some (.slice (some ⟨b,off,none⟩) n cap):=c1 2;clear c1;go_loopw [5] (fun i wr=>∃k:Nat,k<=n∧i=.int .i64 k∧(∀j x,j<k->es[j]?=some x->al ⟨1,ways,es⟩ p j x=true)∧Below v1.heap.size v1 wr) (fun i _=>n-(intOf i).toNat)
 case atStart=>exact ⟨0,Nat.zero_le _,rfl,fun j x hj=>absurd hj (by omega),Below.refl _ _⟩
 case round=>
  obtain ⟨k,hk,rfl,hall,hb⟩:=hrel;have HA:Hid (∀j x,j<k->es[j]?=some x->al ⟨1,ways,es⟩ p j x=true):=hall;clear hall;have d10:=Below.cell2 hb c10 l1;have d11:=Below.cell2 hb c11 l1;have d12:=Below.cell2 hb c12 l1;have l2:w.heap.size<wr.heap.size:=Nat.lt_of_lt_of_le l1 hb.size;have n1r:=Below.step n1 hb (Nat.le_refl _);by_cases hlt:k<n
  ·have hx:∃x:EntM,es[k]?=some x:=⟨_,List.getElem?_eq_getElem (by have:=HN.out;omega)⟩;obtain ⟨⟨v,lv,tg,asd,gl,pt⟩,hx⟩:=hx;have hok:aO ⟨v,lv,tg,asd,gl,pt⟩:=HE.out _ (List.mem_of_getElem? hx);have HRr:=RowC.keep HR.out n1r;have g0:wr.cell? ⟨b,off+k*6,none⟩=some (.bool v):=av HRr HN.out k _ hx 0 _ (by omega) rfl;have g1:wr.cell? ⟨b,off+k*6+1,none⟩=some (.int .i64 lv):=av HRr HN.out k _ hx 1 _ (by omega) rfl;have g2:wr.cell? ⟨b,off+k*6+2,none⟩=some (.int .u64 tg):=av HRr HN.out k _ hx 2 _ (by omega) rfl;have g3:wr.cell? ⟨b,off+k*6+3,none⟩=some (.int .u64 asd):=av HRr HN.out k _ hx 3 _ (by omega) rfl;have g4:wr.cell? ⟨b,off+k*6+4,none⟩=some (.bool gl):=av HRr HN.out k _ hx 4 _ (by omega) rfl;have g5:wr.cell? ⟨b,off+k*6+5,none⟩=some (.int .u64 pt):=av HRr HN.out k _ hx 5 _ (by omega) rfl;have HX:Hid (es[k]?=some ⟨v,lv,tg,asd,gl,pt⟩):=hx;have HPf:Hid (al ⟨1,ways,es⟩ p k ⟨v,lv,tg,asd,gl,pt⟩=false->false=R):=fun h=>by rw [<-HP.out];exact (bb _ p es 0 k _ hx (by rw [Nat.zero_add];exact h)).symm
   have HPt:Hid (al ⟨1,ways,es⟩ p k ⟨v,lv,tg,asd,gl,pt⟩=true->∀j x,j<k+1->es[j]?=some x->al ⟨1,ways,es⟩ p j x=true):=fun h j x hj hx'=>by
    by_cases e:j=k
    ·subst e;rw [hx] at hx';cases hx';exact h
    ·exact HA.out j x (by omega) hx'
   clear hx HRr;have a2:=aY wr #[.bool v,.int .i64 lv,.int .u64 tg,.int .u64 asd,.bool gl,.int .u64 pt] 42;go_wp2_with fail;generalize wr.alloc (Obj.cells #[.bool v,.int .i64 lv,.int .u64 tg,.int .u64 asd,.bool gl,.int .u64 pt] 42)=v2 at a2 |-;obtain ⟨l3,c2,n2⟩:=a2;have k0:=aq (c2 0) l3;have k1:=aq (c2 1) l3;have k2:=aq (c2 2) l3;have k3:=aq (c2 3) l3;have k4:=aq (c2 4) l3;have k5:=aq (c2 5) l3;have j0:=aq (Below.cell2 n2 d10 l2) (Nat.lt_trans l2 l3);have j1:=aq (Below.cell2 n2 d11 l2) (Nat.lt_trans l2 l3);have hb2:=Below.step hb n2 (Nat.le_refl _);have n12:=Below.step n1 hb2 (Nat.le_refl _);have ne:=ci v2;clear c2 d10 d11 d12 hb n2 g0 g1 g2 g3 g4 g5 c10 c11 c12 n1r;obtain ⟨gd,hgd⟩:∃gd,ak ⟨v,lv,tg,asd,gl,pt⟩ p=gd:=⟨_,rfl⟩;have HGd:Hid (∀u:Lies v2,Calls Try.prog 30 #[bQ ⟨v,lv,tg,asd,gl,pt⟩,.bool p] u.w fun e w'=>e=.returned (.bool gd)∧Below u.w.heap.size u.w w'):=fun u=>by
    have:=bj ⟨v,lv,tg,asd,gl,pt⟩ p u.w hok;rw [hgd] at this;exact this
   have HGv:Hid (ak ⟨v,lv,tg,asd,gl,pt⟩ p=gd):=hgd;clear hgd;cases v
   ·have hgf:gd=false:=by rw [<-HGv.out];simp [ak]
    subst hgf;by_cases q1n:¬(lv=0)
    ·have q1:(lv == 0)=false:=by simpa using q1n
     have HQ:Hid ((lv == 0)=false):=q1;clear q1n;refine ai (by kernel_rfl) (by kernel_rfl) ?_;repeat (go_big_quiet_step ((go_at_call 30;exact ao _ (HGd.out _))))
     refine wpQuiet_nil ?_;rintro _ ⟨u,rfl⟩;go_wp2_with fail;go_ret;exact ⟨aj (HPf.out (by simp [al,HGv.out,HQ.out])),Below.step n12 u.h (Nat.le_refl _)⟩
    have q1z:lv=0:=Decidable.not_not.1 q1n;subst q1z;clear q1n;by_cases q2n:¬(tg=0)
    ·have q2:(tg == 0)=false:=by simpa using q2n
     have HQ:Hid ((tg == 0)=false):=q2;clear q2n;refine ai (by kernel_rfl) (by kernel_rfl) ?_;repeat (go_big_quiet_step ((go_at_call 30;exact ao _ (HGd.out _))))
     refine wpQuiet_nil ?_;rintro _ ⟨u,rfl⟩;go_wp2_with fail;go_ret;exact ⟨aj (HPf.out (by simp [al,HGv.out,HQ.out])),Below.step n12 u.h (Nat.le_refl _)⟩
    have q2z:tg=0:=Decidable.not_not.1 q2n;subst q2z;clear q2n;by_cases q3n:¬(asd=0)
    ·have q3:(asd == 0)=false:=by simpa using q3n
     have HQ:Hid ((asd == 0)=false):=q3;clear q3n;refine ai (by kernel_rfl) (by kernel_rfl) ?_;repeat (go_big_quiet_step ((go_at_call 30;exact ao _ (HGd.out _))))
     refine wpQuiet_nil ?_;rintro _ ⟨u,rfl⟩;go_wp2_with fail;go_ret;exact ⟨aj (HPf.out (by simp [al,HGv.out,HQ.out])),Below.step n12 u.h (Nat.le_refl _)⟩
    have q3z:asd=0:=Decidable.not_not.1 q3n;subst q3z;clear q3n;cases hgl:gl
    ·subst hgl;by_cases q5n:¬(pt=0)
     ·have q5:(pt == 0)=false:=by simpa using q5n
      have HQ:Hid ((pt == 0)=false):=q5;clear q5n;refine ai (by kernel_rfl) (by kernel_rfl) ?_;repeat (go_big_quiet_step ((go_at_call 30;exact ao _ (HGd.out _))))
      refine wpQuiet_nil ?_;rintro _ ⟨u,rfl⟩;go_wp2_with fail;go_ret;exact ⟨aj (HPf.out (by simp [al,HGv.out,HQ.out])),Below.step n12 u.h (Nat.le_refl _)⟩
     have q5z:pt=0:=Decidable.not_not.1 q5n;subst q5z;clear q5n;refine ai (by kernel_rfl) (by kernel_rfl) ?_;repeat (go_big_quiet_step ((go_at_call 30;exact ao _ (HGd.out _))))
     refine wpQuiet_nil ?_;rintro _ ⟨u,rfl⟩;go_wp2_with fail;go_roundw
     case rel=>exact ⟨k+1,by omega,by go_num,HPt.out (by simp [al]),Below.step hb2 u.h (Nat.le_refl _)⟩
     case measure=>simp [intOf];omega
    ·subst hgl;refine ai (by kernel_rfl) (by kernel_rfl) ?_;repeat (go_big_quiet_step ((go_at_call 30;exact ao _ (HGd.out _))))
     refine wpQuiet_nil ?_;rintro _ ⟨u,rfl⟩;go_wp2_with fail;go_ret;exact ⟨aj (HPf.out (by simp [al,HGv.out])),Below.step n12 u.h (Nat.le_refl _)⟩
   ·cases gd
    ·
     refine ai (by kernel_rfl) (by kernel_rfl) ?_;repeat (go_big_quiet_step ((go_at_call 30;exact ao _ (HGd.out _))))
     refine wpQuiet_nil ?_;rintro _ ⟨u,rfl⟩;go_wp2_with fail;go_ret;exact ⟨aj (HPf.out (by simp [al,HGv.out])),Below.step n12 u.h (Nat.le_refl _)⟩
    ·have htg:tg<512:=cA HGv.out;have htg0:0<=tg:=hok.2.1.1;have hd0:0<=(k:Int)/ways:=Int.ediv_nonneg (by omega) (by omega);have hd1:(k:Int)/ways<=1048576:=Int.le_trans (Int.ediv_le_self _ (by omega)) (by omega);by_cases hq:tg%1=(k:Int)/ways
     ·have hq':((0:Int) != (k:Int)/ways)=false:=by rw [bne_eq_false_iff_eq];omega
      have HQ:Hid (tg%1=(k:Int)/ways):=hq;clear hq;refine ai (by kernel_rfl) (by kernel_rfl) ?_;repeat (go_big_quiet_step ((go_at_call 30;exact ao _ (HGd.out _))))
      refine wpQuiet_nil ?_;rintro _ ⟨u,rfl⟩;go_wp2_with fail;go_roundw
      case rel=>exact ⟨k+1,by omega,by go_num,HPt.out (by simp [al,HGv.out,HQ.out]),Below.step hb2 u.h (Nat.le_refl _)⟩
      case measure=>simp [intOf];omega
     ·have hq':((0:Int) != (k:Int)/ways)=true:=by rw [bne_iff_ne];omega
      have HQ:Hid (¬tg%1=(k:Int)/ways):=hq;clear hq;refine ai (by kernel_rfl) (by kernel_rfl) ?_;repeat (go_big_quiet_step ((go_at_call 30;exact ao _ (HGd.out _))))
      refine wpQuiet_nil ?_;rintro _ ⟨u,rfl⟩;go_wp2_with fail;go_ret;exact ⟨aj (HPf.out (by have hz:=HQ.out;rw [Int.emod_one] at hz;simp [al,hz])),Below.step n12 u.h (Nat.le_refl _)⟩
  ·have hkn:k=n:=by omega
   subst hkn;have HT:Hid (true=R):=by
    show true=R;rw [<-HP.out];exact (bh _ p es 0 (fun j x hx=>by rw [Nat.zero_add];exact HA.out j x (by have h1:=(List.getElem?_eq_some_iff.1 hx).1;have h2:=HN.out;omega) hx)).symm
   clear c10 c11 c12 n1 d10 d11;go_wp2_with fail;go_ret;exact ⟨aj HT.out,n1r⟩
end
section
attribute [local go_sem ↓] Go.wp_at_zero Go.wp_at_succ
theorem eo (b off:Nat) (cap:Nat) (ways:Int) (es:List EntM) (n:Nat) (p:Bool) (w:World) (hr:RowC w (some ⟨b,off,none⟩) n 6 (ad es)) (he:∀e∈es,aO e) (hl:n<=1048576) (hN:es.length=n)
 (hw:1<=ways) (hw':ways<=4) (hn:(n:Int)=2*ways):
  Calls Try.prog 9 #[.agg #[.int .i64 2,.int .i64 ways,.slice (some ⟨b,off,none⟩) n cap],.bool p] w fun e w'=>e=.returned (.bool (aP ⟨2,ways,es⟩ p 0 es))∧Below w.heap.size w w':=by
 have a1:=aY w #[.int .i64 2,.int .i64 ways,.slice (some ⟨b,off,none⟩) n cap] 29;have hn':((n:Int) != 2*ways)=false:=by rw [bne_eq_false_iff_eq];omega
 have HN:Hid (es.length=n):=hN;have HR:Hid (RowC w (some ⟨b,off,none⟩) n 6 (ad es)):=hr;have HE:Hid (∀e∈es,aO e):=he;obtain ⟨R,hR⟩:∃R,aP ⟨2,ways,es⟩ p 0 es=R:=⟨_,rfl⟩;rw [hR];have HP:Hid (aP ⟨2,ways,es⟩ p 0 es=R):=hR;clear hN hr he hn hR;go_enter Try.func9,Try.ntmps9;go_wp2_with fail;generalize w.alloc (Obj.cells #[.int .i64 2,.int .i64 ways,.slice (some ⟨b,off,none⟩) n cap] 29)=v1 at a1 |-;obtain ⟨l1,c1,n1⟩:=a1;have c10:v1.cell? ⟨w.heap.size,0,none⟩=some (.int .i64 2):=c1 0;have c11:v1.cell? ⟨w.heap.size,1,none⟩=some (.int .i64 ways):=c1 1;have c12:v1.cell? ⟨w.heap.size,2,none⟩=some (.slice (some ⟨b,off,none⟩) n cap):=c1 2;clear c1;go_loopw [5] (fun i wr=>∃k:Nat,k<=n∧i=.int .i64 k∧(∀j x,j<k->es[j]?=some x->al ⟨2,ways,es⟩ p j x=true)∧Below v1.heap.size v1 wr) (fun i _=>n-(intOf i).toNat)
 case atStart=>exact ⟨0,Nat.zero_le _,rfl,fun j x hj=>absurd hj (by omega),Below.refl _ _⟩
 case round=>
  obtain ⟨k,hk,rfl,hall,hb⟩:=hrel;have HA:Hid (∀j x,j<k->es[j]?=some x->al ⟨2,ways,es⟩ p j x=true):=hall;clear hall;have d10:=Below.cell2 hb c10 l1;have d11:=Below.cell2 hb c11 l1;have d12:=Below.cell2 hb c12 l1;have l2:w.heap.size<wr.heap.size:=Nat.lt_of_lt_of_le l1 hb.size;have n1r:=Below.step n1 hb (Nat.le_refl _);by_cases hlt:k<n
  ·have hx:∃x:EntM,es[k]?=some x:=⟨_,List.getElem?_eq_getElem (by have:=HN.out;omega)⟩;obtain ⟨⟨v,lv,tg,asd,gl,pt⟩,hx⟩:=hx;have hok:aO ⟨v,lv,tg,asd,gl,pt⟩:=HE.out _ (List.mem_of_getElem? hx);have HRr:=RowC.keep HR.out n1r;have g0:wr.cell? ⟨b,off+k*6,none⟩=some (.bool v):=av HRr HN.out k _ hx 0 _ (by omega) rfl;have g1:wr.cell? ⟨b,off+k*6+1,none⟩=some (.int .i64 lv):=av HRr HN.out k _ hx 1 _ (by omega) rfl;have g2:wr.cell? ⟨b,off+k*6+2,none⟩=some (.int .u64 tg):=av HRr HN.out k _ hx 2 _ (by omega) rfl;have g3:wr.cell? ⟨b,off+k*6+3,none⟩=some (.int .u64 asd):=av HRr HN.out k _ hx 3 _ (by omega) rfl;have g4:wr.cell? ⟨b,off+k*6+4,none⟩=some (.bool gl):=av HRr HN.out k _ hx 4 _ (by omega) rfl;have g5:wr.cell? ⟨b,off+k*6+5,none⟩=some (.int .u64 pt):=av HRr HN.out k _ hx 5 _ (by omega) rfl;have HX:Hid (es[k]?=some ⟨v,lv,tg,asd,gl,pt⟩):=hx;have HPf:Hid (al ⟨2,ways,es⟩ p k ⟨v,lv,tg,asd,gl,pt⟩=false->false=R):=fun h=>by rw [<-HP.out];exact (bb _ p es 0 k _ hx (by rw [Nat.zero_add];exact h)).symm
   have HPt:Hid (al ⟨2,ways,es⟩ p k ⟨v,lv,tg,asd,gl,pt⟩=true->∀j x,j<k+1->es[j]?=some x->al ⟨2,ways,es⟩ p j x=true):=fun h j x hj hx'=>by
    by_cases e:j=k
    ·subst e;rw [hx] at hx';cases hx';exact h
    ·exact HA.out j x (by omega) hx'
   clear hx HRr;have a2:=aY wr #[.bool v,.int .i64 lv,.int .u64 tg,.int .u64 asd,.bool gl,.int .u64 pt] 42;go_wp2_with fail;generalize wr.alloc (Obj.cells #[.bool v,.int .i64 lv,.int .u64 tg,.int .u64 asd,.bool gl,.int .u64 pt] 42)=v2 at a2 |-;obtain ⟨l3,c2,n2⟩:=a2;have k0:=aq (c2 0) l3;have k1:=aq (c2 1) l3;have k2:=aq (c2 2) l3;have k3:=aq (c2 3) l3;have k4:=aq (c2 4) l3;have k5:=aq (c2 5) l3;have j0:=aq (Below.cell2 n2 d10 l2) (Nat.lt_trans l2 l3);have j1:=aq (Below.cell2 n2 d11 l2) (Nat.lt_trans l2 l3);have hb2:=Below.step hb n2 (Nat.le_refl _);have n12:=Below.step n1 hb2 (Nat.le_refl _);have ne:=ci v2;clear c2 d10 d11 d12 hb n2 g0 g1 g2 g3 g4 g5 c10 c11 c12 n1r;obtain ⟨gd,hgd⟩:∃gd,ak ⟨v,lv,tg,asd,gl,pt⟩ p=gd:=⟨_,rfl⟩;have HGd:Hid (∀u:Lies v2,Calls Try.prog 30 #[bQ ⟨v,lv,tg,asd,gl,pt⟩,.bool p] u.w fun e w'=>e=.returned (.bool gd)∧Below u.w.heap.size u.w w'):=fun u=>by
    have:=bj ⟨v,lv,tg,asd,gl,pt⟩ p u.w hok;rw [hgd] at this;exact this
   have HGv:Hid (ak ⟨v,lv,tg,asd,gl,pt⟩ p=gd):=hgd;clear hgd;cases v
   ·have hgf:gd=false:=by rw [<-HGv.out];simp [ak]
    subst hgf;by_cases q1n:¬(lv=0)
    ·have q1:(lv == 0)=false:=by simpa using q1n
     have HQ:Hid ((lv == 0)=false):=q1;clear q1n;refine ai (by kernel_rfl) (by kernel_rfl) ?_;repeat (go_big_quiet_step ((go_at_call 30;exact ao _ (HGd.out _))))
     refine wpQuiet_nil ?_;rintro _ ⟨u,rfl⟩;go_wp2_with fail;go_ret;exact ⟨aj (HPf.out (by simp [al,HGv.out,HQ.out])),Below.step n12 u.h (Nat.le_refl _)⟩
    have q1z:lv=0:=Decidable.not_not.1 q1n;subst q1z;clear q1n;by_cases q2n:¬(tg=0)
    ·have q2:(tg == 0)=false:=by simpa using q2n
     have HQ:Hid ((tg == 0)=false):=q2;clear q2n;refine ai (by kernel_rfl) (by kernel_rfl) ?_;repeat (go_big_quiet_step ((go_at_call 30;exact ao _ (HGd.out _))))
     refine wpQuiet_nil ?_;rintro _ ⟨u,rfl⟩;go_wp2_with fail;go_ret;exact ⟨aj (HPf.out (by simp [al,HGv.out,HQ.out])),Below.step n12 u.h (Nat.le_refl _)⟩
    have q2z:tg=0:=Decidable.not_not.1 q2n;subst q2z;clear q2n;by_cases q3n:¬(asd=0)
    ·have q3:(asd == 0)=false:=by simpa using q3n
     have HQ:Hid ((asd == 0)=false):=q3;clear q3n;refine ai (by kernel_rfl) (by kernel_rfl) ?_;repeat (go_big_quiet_step ((go_at_call 30;exact ao _ (HGd.out _))))
     refine wpQuiet_nil ?_;rintro _ ⟨u,rfl⟩;go_wp2_with fail;go_ret;exact ⟨aj (HPf.out (by simp [al,HGv.out,HQ.out])),Below.step n12 u.h (Nat.le_refl _)⟩
    have q3z:asd=0:=Decidable.not_not.1 q3n;subst q3z;clear q3n;cases hgl:gl
    ·subst hgl;by_cases q5n:¬(pt=0)
     ·have q5:(pt == 0)=false:=by simpa using q5n
      have HQ:Hid ((pt == 0)=false):=q5;clear q5n;refine ai (by kernel_rfl) (by kernel_rfl) ?_;repeat (go_big_quiet_step ((go_at_call 30;exact ao _ (HGd.out _))))
      refine wpQuiet_nil ?_;rintro _ ⟨u,rfl⟩;go_wp2_with fail;go_ret;exact ⟨aj (HPf.out (by simp [al,HGv.out,HQ.out])),Below.step n12 u.h (Nat.le_refl _)⟩
     have q5z:pt=0:=Decidable.not_not.1 q5n;subst q5z;clear q5n;refine ai (by kernel_rfl) (by kernel_rfl) ?_;repeat (go_big_quiet_step ((go_at_call 30;exact ao _ (HGd.out _))))
     refine wpQuiet_nil ?_;rintro _ ⟨u,rfl⟩;go_wp2_with fail;go_roundw
     case rel=>exact ⟨k+1,by omega,by go_num,HPt.out (by simp [al]),Below.step hb2 u.h (Nat.le_refl _)⟩
     case measure=>simp [intOf];omega
    ·subst hgl;refine ai (by kernel_rfl) (by kernel_rfl) ?_;repeat (go_big_quiet_step ((go_at_call 30;exact ao _ (HGd.out _))))
     refine wpQuiet_nil ?_;rintro _ ⟨u,rfl⟩;go_wp2_with fail;go_ret;exact ⟨aj (HPf.out (by simp [al,HGv.out])),Below.step n12 u.h (Nat.le_refl _)⟩
   ·cases gd
    ·
     refine ai (by kernel_rfl) (by kernel_rfl) ?_;repeat (go_big_quiet_step ((go_at_call 30;exact ao _ (HGd.out _))))
     refine wpQuiet_nil ?_;rintro _ ⟨u,rfl⟩;go_wp2_with fail;go_ret;exact ⟨aj (HPf.out (by simp [al,HGv.out])),Below.step n12 u.h (Nat.le_refl _)⟩
    ·have htg:tg<512:=cA HGv.out;have htg0:0<=tg:=hok.2.1.1;have hd0:0<=(k:Int)/ways:=Int.ediv_nonneg (by omega) (by omega);have hd1:(k:Int)/ways<=1048576:=Int.le_trans (Int.ediv_le_self _ (by omega)) (by omega);by_cases hq:tg%2=(k:Int)/ways
     ·have hq':(tg%2 != (k:Int)/ways)=false:=by rw [bne_eq_false_iff_eq];exact hq
      have HQ:Hid (tg%2=(k:Int)/ways):=hq;clear hq;refine ai (by kernel_rfl) (by kernel_rfl) ?_;repeat (go_big_quiet_step ((go_at_call 30;exact ao _ (HGd.out _))))
      refine wpQuiet_nil ?_;rintro _ ⟨u,rfl⟩;go_wp2_with fail;go_roundw
      case rel=>exact ⟨k+1,by omega,by go_num,HPt.out (by simp [al,HGv.out,HQ.out]),Below.step hb2 u.h (Nat.le_refl _)⟩
      case measure=>simp [intOf];omega
     ·have hq':(tg%2 != (k:Int)/ways)=true:=by rw [bne_iff_ne];exact hq
      have HQ:Hid (¬tg%2=(k:Int)/ways):=hq;clear hq;refine ai (by kernel_rfl) (by kernel_rfl) ?_;repeat (go_big_quiet_step ((go_at_call 30;exact ao _ (HGd.out _))))
      refine wpQuiet_nil ?_;rintro _ ⟨u,rfl⟩;go_wp2_with fail;go_ret;exact ⟨aj (HPf.out (by simp [al,HQ.out])),Below.step n12 u.h (Nat.le_refl _)⟩
  ·have hkn:k=n:=by omega
   subst hkn;have HT:Hid (true=R):=by
    show true=R;rw [<-HP.out];exact (bh _ p es 0 (fun j x hx=>by rw [Nat.zero_add];exact HA.out j x (by have h1:=(List.getElem?_eq_some_iff.1 hx).1;have h2:=HN.out;omega) hx)).symm
   clear c10 c11 c12 n1 d10 d11;go_wp2_with fail;go_ret;exact ⟨aj HT.out,n1r⟩
end
end Go.Proofs.Ytfgogedgolgnaaa
