import Derived.Test.YtfgogedgolgnaaaHk02
import Derived.Deep.DeepCutAuto
namespace Go.Proofs.Ytfgogedgolgnaaa
open Go.RowKit
set_option linter.unusedVariables false
set_option maxHeartbeats 6400000
set_option maxRecDepth 20000
section
attribute [local go_sem ↓] Go.wp_at_zero Go.wp_at_succ
theorem fk (b off:Nat) (cap:Nat) (ways:Int) (es:List EntM) (n:Nat) (p:Bool) (w:World) (hr:RowC w (some ⟨b,off,none⟩) n 6 (ak es)) (he:∀e∈es,aV e) (hl:n<=1048576) (hN:es.length=n)
 (hw:1<=ways) (hw':ways<=4) (hn:(n:Int)=8*ways):
  Calls Try.prog 9 #[.agg #[.int .i64 8,.int .i64 ways,.slice (some ⟨b,off,none⟩) n cap],.bool p] w fun e w'=>e=.returned (.bool (aL ⟨8,ways,es⟩ p 0 es))∧Below w.heap.size w w':=by
 have a1:=ba w #[.int .i64 8,.int .i64 ways,.slice (some ⟨b,off,none⟩) n cap] 29;have hn':((n:Int) != 8*ways)=false:=by rw [bne_eq_false_iff_eq];omega
 have HN:Hid (es.length=n):=hN;have HR:Hid (RowC w (some ⟨b,off,none⟩) n 6 (ak es)):=hr;have HE:Hid (∀e∈es,aV e):=he;obtain ⟨R,hR⟩:∃R,aL ⟨8,ways,es⟩ p 0 es=R:=⟨_,rfl⟩;rw [hR];have HP:Hid (aL ⟨8,ways,es⟩ p 0 es=R):=hR;clear hN hr he hn hR;go_enter Try.func9,Try.ntmps9;go_wp2_with fail;generalize w.alloc (Obj.cells #[.int .i64 8,.int .i64 ways,.slice (some ⟨b,off,none⟩) n cap] 29)=v1 at a1 |-;obtain ⟨l1,c1,n1⟩:=a1;have c10:v1.cell? ⟨w.heap.size,0,none⟩=some (.int .i64 8):=c1 0;have c11:v1.cell? ⟨w.heap.size,1,none⟩=some (.int .i64 ways):=c1 1;have c12:v1.cell? ⟨w.heap.size,2,none⟩=some (.slice (some ⟨b,off,none⟩) n cap):=c1 2;clear c1;go_loopw [5] (fun i wr=>∃k:Nat,k<=n∧i=.int .i64 k∧(∀j x,j<k->es[j]?=some x->ai ⟨8,ways,es⟩ p j x=true)∧Below v1.heap.size v1 wr) (fun i _=>n-(intOf i).toNat)
 case atStart=>exact ⟨0,Nat.zero_le _,rfl,fun j x hj=>absurd hj (by omega),Below.refl _ _⟩
 case round=>
  obtain ⟨k,hk,rfl,hall,hb⟩:=hrel;have HA:Hid (∀j x,j<k->es[j]?=some x->ai ⟨8,ways,es⟩ p j x=true):=hall;clear hall;have d10:=Below.cell2 hb c10 l1;have d11:=Below.cell2 hb c11 l1;have d12:=Below.cell2 hb c12 l1;have l2:w.heap.size<wr.heap.size:=Nat.lt_of_lt_of_le l1 hb.size;have n1r:=Below.step n1 hb (Nat.le_refl _);by_cases hlt:k<n
  ·have hx:∃x:EntM,es[k]?=some x:=⟨_,List.getElem?_eq_getElem (by have:=HN.out;omega)⟩;obtain ⟨⟨v,lv,tg,asd,gl,pt⟩,hx⟩:=hx;have hok:aV ⟨v,lv,tg,asd,gl,pt⟩:=HE.out _ (List.mem_of_getElem? hx);have HRr:=RowC.keep HR.out n1r;have g0:wr.cell? ⟨b,off+k*6,none⟩=some (.bool v):=ay HRr HN.out k _ hx 0 _ (by omega) rfl;have g1:wr.cell? ⟨b,off+k*6+1,none⟩=some (.int .i64 lv):=ay HRr HN.out k _ hx 1 _ (by omega) rfl;have g2:wr.cell? ⟨b,off+k*6+2,none⟩=some (.int .u64 tg):=ay HRr HN.out k _ hx 2 _ (by omega) rfl;have g3:wr.cell? ⟨b,off+k*6+3,none⟩=some (.int .u64 asd):=ay HRr HN.out k _ hx 3 _ (by omega) rfl;have g4:wr.cell? ⟨b,off+k*6+4,none⟩=some (.bool gl):=ay HRr HN.out k _ hx 4 _ (by omega) rfl;have g5:wr.cell? ⟨b,off+k*6+5,none⟩=some (.int .u64 pt):=ay HRr HN.out k _ hx 5 _ (by omega) rfl;have HX:Hid (es[k]?=some ⟨v,lv,tg,asd,gl,pt⟩):=hx;have HPf:Hid (ai ⟨8,ways,es⟩ p k ⟨v,lv,tg,asd,gl,pt⟩=false->false=R):=fun h=>by rw [<-HP.out];exact (aX _ p es 0 k _ hx (by rw [Nat.zero_add];exact h)).symm
   have HPt:Hid (ai ⟨8,ways,es⟩ p k ⟨v,lv,tg,asd,gl,pt⟩=true->∀j x,j<k+1->es[j]?=some x->ai ⟨8,ways,es⟩ p j x=true):=fun h j x hj hx'=>by
    by_cases e:j=k
    ·subst e;rw [hx] at hx';cases hx';exact h
    ·exact HA.out j x (by omega) hx'
   clear hx HRr;have a2:=ba wr #[.bool v,.int .i64 lv,.int .u64 tg,.int .u64 asd,.bool gl,.int .u64 pt] 42;go_wp2_with fail;generalize wr.alloc (Obj.cells #[.bool v,.int .i64 lv,.int .u64 tg,.int .u64 asd,.bool gl,.int .u64 pt] 42)=v2 at a2 |-;obtain ⟨l3,c2,n2⟩:=a2;have k0:=an (c2 0) l3;have k1:=an (c2 1) l3;have k2:=an (c2 2) l3;have k3:=an (c2 3) l3;have k4:=an (c2 4) l3;have k5:=an (c2 5) l3;have j0:=an (Below.cell2 n2 d10 l2) (Nat.lt_trans l2 l3);have j1:=an (Below.cell2 n2 d11 l2) (Nat.lt_trans l2 l3);have hb2:=Below.step hb n2 (Nat.le_refl _);have n12:=Below.step n1 hb2 (Nat.le_refl _);have ne:=bT v2;clear c2 d10 d11 d12 hb n2 g0 g1 g2 g3 g4 g5 c10 c11 c12 n1r;obtain ⟨gd,hgd⟩:∃gd,ah ⟨v,lv,tg,asd,gl,pt⟩ p=gd:=⟨_,rfl⟩;have HGd:Hid (∀u:Lies v2,Calls Try.prog 30 #[dR ⟨v,lv,tg,asd,gl,pt⟩,.bool p] u.w fun e w'=>e=.returned (.bool gd)∧Below u.w.heap.size u.w w'):=fun u=>by
    have:=bn ⟨v,lv,tg,asd,gl,pt⟩ p u.w hok;rw [hgd] at this;exact this
   have HGv:Hid (ah ⟨v,lv,tg,asd,gl,pt⟩ p=gd):=hgd;clear hgd;cases v
   ·have hgf:gd=false:=by rw [<-HGv.out];simp [ah]
    subst hgf;by_cases q1n:¬(lv=0)
    ·have q1:(lv == 0)=false:=by simpa using q1n
     have HQ:Hid ((lv == 0)=false):=q1;clear q1n;refine ac (by kernel_rfl) (by kernel_rfl) ?_;repeat (go_big_quiet_step ((go_at_call 30;exact aj _ (HGd.out _))))
     refine wpQuiet_nil ?_;rintro _ ⟨u,rfl⟩;go_wp2_with fail;go_ret;exact ⟨ag (HPf.out (by simp [ai,HGv.out,HQ.out])),Below.step n12 u.h (Nat.le_refl _)⟩
    have q1z:lv=0:=Decidable.not_not.1 q1n;subst q1z;clear q1n;by_cases q2n:¬(tg=0)
    ·have q2:(tg == 0)=false:=by simpa using q2n
     have HQ:Hid ((tg == 0)=false):=q2;clear q2n;refine ac (by kernel_rfl) (by kernel_rfl) ?_;repeat (go_big_quiet_step ((go_at_call 30;exact aj _ (HGd.out _))))
     refine wpQuiet_nil ?_;rintro _ ⟨u,rfl⟩;go_wp2_with fail;go_ret;exact ⟨ag (HPf.out (by simp [ai,HGv.out,HQ.out])),Below.step n12 u.h (Nat.le_refl _)⟩
    have q2z:tg=0:=Decidable.not_not.1 q2n;subst q2z;clear q2n;by_cases q3n:¬(asd=0)
    ·have q3:(asd == 0)=false:=by simpa using q3n
     have HQ:Hid ((asd == 0)=false):=q3;clear q3n;refine ac (by kernel_rfl) (by kernel_rfl) ?_;repeat (go_big_quiet_step ((go_at_call 30;exact aj _ (HGd.out _))))
     refine wpQuiet_nil ?_;rintro _ ⟨u,rfl⟩;go_wp2_with fail;go_ret;exact ⟨ag (HPf.out (by simp [ai,HGv.out,HQ.out])),Below.step n12 u.h (Nat.le_refl _)⟩
    have q3z:asd=0:=Decidable.not_not.1 q3n;subst q3z;clear q3n;cases hgl:gl
    ·subst hgl;by_cases q5n:¬(pt=0)
     ·have q5:(pt == 0)=false:=by simpa using q5n
      have HQ:Hid ((pt == 0)=false):=q5;clear q5n;refine ac (by kernel_rfl) (by kernel_rfl) ?_;repeat (go_big_quiet_step ((go_at_call 30;exact aj _ (HGd.out _))))
      refine wpQuiet_nil ?_;rintro _ ⟨u,rfl⟩;go_wp2_with fail;go_ret;exact ⟨ag (HPf.out (by simp [ai,HGv.out,HQ.out])),Below.step n12 u.h (Nat.le_refl _)⟩
     have q5z:pt=0:=Decidable.not_not.1 q5n;subst q5z;clear q5n;refine ac (by kernel_rfl) (by kernel_rfl) ?_;repeat (go_big_quiet_step ((go_at_call 30;exact aj _ (HGd.out _))))
     refine wpQuiet_nil ?_;rintro _ ⟨u,rfl⟩;go_wp2_with fail;go_roundw
     case rel=>exact ⟨k+1,by omega,by go_num,HPt.out (by simp [ai]),Below.step hb2 u.h (Nat.le_refl _)⟩
     case measure=>simp [intOf];omega
    ·subst hgl;refine ac (by kernel_rfl) (by kernel_rfl) ?_;repeat (go_big_quiet_step ((go_at_call 30;exact aj _ (HGd.out _))))
     refine wpQuiet_nil ?_;rintro _ ⟨u,rfl⟩;go_wp2_with fail;go_ret;exact ⟨ag (HPf.out (by simp [ai,HGv.out])),Below.step n12 u.h (Nat.le_refl _)⟩
   ·cases gd
    ·
     refine ac (by kernel_rfl) (by kernel_rfl) ?_;repeat (go_big_quiet_step ((go_at_call 30;exact aj _ (HGd.out _))))
     refine wpQuiet_nil ?_;rintro _ ⟨u,rfl⟩;go_wp2_with fail;go_ret;exact ⟨ag (HPf.out (by simp [ai,HGv.out])),Below.step n12 u.h (Nat.le_refl _)⟩
    ·have htg:tg<512:=cR HGv.out;have htg0:0<=tg:=hok.2.1.1;have hd0:0<=(k:Int)/ways:=Int.ediv_nonneg (by omega) (by omega);have hd1:(k:Int)/ways<=1048576:=Int.le_trans (Int.ediv_le_self _ (by omega)) (by omega);by_cases hq:tg%8=(k:Int)/ways
     ·have hq':(tg%8 != (k:Int)/ways)=false:=by rw [bne_eq_false_iff_eq];exact hq
      have HQ:Hid (tg%8=(k:Int)/ways):=hq;clear hq;refine ac (by kernel_rfl) (by kernel_rfl) ?_;repeat (go_big_quiet_step ((go_at_call 30;exact aj _ (HGd.out _))))
      refine wpQuiet_nil ?_;rintro _ ⟨u,rfl⟩;go_wp2_with fail;go_roundw
      case rel=>exact ⟨k+1,by omega,by go_num,HPt.out (by simp [ai,HGv.out,HQ.out]),Below.step hb2 u.h (Nat.le_refl _)⟩
      case measure=>simp [intOf];omega
     ·have hq':(tg%8 != (k:Int)/ways)=true:=by rw [bne_iff_ne];exact hq
      have HQ:Hid (¬tg%8=(k:Int)/ways):=hq;clear hq;refine ac (by kernel_rfl) (by kernel_rfl) ?_;repeat (go_big_quiet_step ((go_at_call 30;exact aj _ (HGd.out _))))
      refine wpQuiet_nil ?_;rintro _ ⟨u,rfl⟩;go_wp2_with fail;go_ret;exact ⟨ag (HPf.out (by simp [ai,HQ.out])),Below.step n12 u.h (Nat.le_refl _)⟩
  ·have hkn:k=n:=by omega
   subst hkn;have HT:Hid (true=R):=by
    show true=R;rw [<-HP.out];exact (aW _ p es 0 (fun j x hx=>by rw [Nat.zero_add];exact HA.out j x (by have h1:=(List.getElem?_eq_some_iff.1 hx).1;have h2:=HN.out;omega) hx)).symm
   clear c10 c11 c12 n1 d10 d11;go_wp2_with fail;go_ret;exact ⟨ag HT.out,n1r⟩
end
theorem eA (a:Option Addr) (n cap:Nat) (sets ways:Int) (p:Bool) (w:World) (hl:n<=1048576) (hs: -9223372036854775808<=sets∧sets<=9223372036854775807) (hw: -9223372036854775808<=ways∧ways<=9223372036854775807)
 (h:¬((sets=1∨sets=2∨sets=4∨sets=8)∧1<=ways∧ways<=4∧(n:Int)=sets*ways)):
 Calls Try.prog 9 #[.agg #[.int .i64 sets,.int .i64 ways,.slice a n cap],.bool p] w fun e w'=>e=.returned (.bool false)∧Below w.heap.size w w':=by
 by_cases h1:sets=1∨sets=2∨sets=4∨sets=8
 ·by_cases h2:ways<1
  ·rcases h1 with rfl | rfl | rfl | rfl;all_goals
    go_enter Try.func9,Try.ntmps9;go_wp2_with fail;go_ret;exact ⟨rfl,(Below.refl _ _).alloc (Nat.le_refl _) _⟩
  by_cases h3:4<ways
  ·rcases h1 with rfl | rfl | rfl | rfl;all_goals
    go_enter Try.func9,Try.ntmps9;go_wp2_with fail;go_ret;exact ⟨rfl,(Below.refl _ _).alloc (Nat.le_refl _) _⟩
  rcases h1 with rfl | rfl | rfl | rfl
  ·have h4:((n:Int) != ways)=true:=by rw [bne_iff_ne];omega
   clear h;go_enter Try.func9,Try.ntmps9;go_wp2_with fail;go_ret;exact ⟨rfl,(Below.refl _ _).alloc (Nat.le_refl _) _⟩
  ·have h4:((n:Int) != 2*ways)=true:=by rw [bne_iff_ne];omega
   clear h;go_enter Try.func9,Try.ntmps9;go_wp2_with fail;go_ret;exact ⟨rfl,(Below.refl _ _).alloc (Nat.le_refl _) _⟩
  ·have h4:((n:Int) != 4*ways)=true:=by rw [bne_iff_ne];omega
   clear h;go_enter Try.func9,Try.ntmps9;go_wp2_with fail;go_ret;exact ⟨rfl,(Below.refl _ _).alloc (Nat.le_refl _) _⟩
  ·have h4:((n:Int) != 8*ways)=true:=by rw [bne_iff_ne];omega
   clear h;go_enter Try.func9,Try.ntmps9;go_wp2_with fail;go_ret;exact ⟨rfl,(Below.refl _ _).alloc (Nat.le_refl _) _⟩
 ·have q1:(sets != 1)=true:=by rw [bne_iff_ne];omega
  have q2:(sets != 2)=true:=by rw [bne_iff_ne];omega
  have q4:(sets != 4)=true:=by rw [bne_iff_ne];omega
  have q8:(sets != 8)=true:=by rw [bne_iff_ne];omega
  clear h h1;go_enter Try.func9,Try.ntmps9;go_wp2_with fail;go_ret;exact ⟨rfl,(Below.refl _ _).alloc (Nat.le_refl _) _⟩
theorem bQ (v:Value) (t:TlbM) (p:Bool) (w:World) (h:TlbAt w v t):
 Calls Try.prog 9 #[v,.bool p] w fun e w'=>e=.returned (.bool (ap t p))∧Below w.heap.size w w':=by
 obtain ⟨a,cap,rfl,hr,he,hs,hw,hl,hlc,hcm,hnil,hsp⟩:=h;obtain ⟨sets,ways,es⟩:=t;simp only at hr he hs hw hl hlc hnil |-;by_cases hsh:(sets=1∨sets=2∨sets=4∨sets=8)∧1<=ways∧ways<=4∧(es.length:Int)=sets*ways
 ·have hv:ap ⟨sets,ways,es⟩ p=aL ⟨sets,ways,es⟩ p 0 es:=by simp only [ap,bP];rw [decide_eq_true hsh,Bool.true_and]
  rw [hv];obtain ⟨h1,h2,h3,h4⟩:=hsh;obtain ⟨b,off,rfl⟩:∃b off,a=some ⟨b,off,none⟩:=by
   rcases hr.2 with h0 | ⟨b,off,rfl,_,_⟩
   ·rw [h0] at h4;rcases h1 with rfl | rfl | rfl | rfl <;> simp at h4 <;> omega
   ·exact ⟨b,off,rfl⟩
  rcases h1 with rfl | rfl | rfl | rfl
  ·exact fm b off cap ways es es.length p w hr he hl rfl h2 h3 h4
  ·exact eS b off cap ways es es.length p w hr he hl rfl h2 h3 h4
  ·exact eW b off cap ways es es.length p w hr he hl rfl h2 h3 h4
  ·exact fk b off cap ways es es.length p w hr he hl rfl h2 h3 h4
 ·have hv:ap ⟨sets,ways,es⟩ p=false:=by simp only [ap,bP];rw [decide_eq_false hsh,Bool.false_and]
  rw [hv];exact eA a es.length cap sets ways p w hl hs hw hsh
section
attribute [local go_sem ↓] Go.wp_at_zero Go.wp_at_succ
theorem TlbAt.keep {w w':World} {v:Value} {t:TlbM} (h:TlbAt w v t) (hb:Below w.heap.size w w'):TlbAt w' v t:=by
 obtain ⟨a,cap,rfl,hr,r⟩:=h;exact ⟨a,cap,rfl,hr.keep hb,r⟩
def cO (t:TlbM):Bool:=ap t true || ap t false
def fU (x:EntM) (va asid:Int):Bool:=x.valid && (x.tag == eR va x.level) && (x.glob || x.asid == asid)
end
section
attribute [local go_sem ↓] Go.wp_at_zero Go.wp_at_succ
def iC (va asid l:Int) (x:EntM):Bool:=x.level == l && fU x va asid
def cA (va asid l:Int):Nat->List EntM->Option (Nat × EntM)
 | _,[]=>none
 | i,e::r=>if iC va asid l e=true then some (i,e) else cA va asid l (i+1) r
def bS (l:Int):Option (Nat × EntM)->Option (Bool × Int × Int × Int)
 | none=>none
 | some (i,e)=>some (true,(i:Int),l,e.pte)
def aS (t:TlbM) (va asid:Int):Bool × Int × Int × Int:=
 if cO t=false then (false,0,0,0)
 else ((bS 0 (cA va asid 0 0 t.es)).or ((bS 1 (cA va asid 1 0 t.es)).or (bS 2 (cA va asid 2 0 t.es)))).getD (false,0,0,0)
theorem ct (t:TlbM) (p:Bool):∀(es:List EntM) (i:Nat),aL t p i es=true->∀j x,es[j]?=some x->ai t p (i+j) x=true
 | e::r,i,h,0,x,hx=>by
  simp at hx;subst hx;simp only [aL,Bool.and_eq_true] at h;exact h.1
 | e::r,i,h,j+1,x,hx=>by
  simp only [aL,Bool.and_eq_true] at h;have:=ct t p r (i+1) h.2 j x (by simpa using hx);rw [show i+(j+1)=i+1+j by omega];exact this
theorem dg {t:TlbM} {p:Bool} {i:Nat} {x:EntM} (h:ai t p i x=true) (hv:x.valid=true):0<=x.level∧x.level<=2:=by
 simp only [ai,Bool.or_eq_true,Bool.and_eq_true] at h;rcases h with h | h
 ·rw [hv] at h;simp at h
 ·have:=h.1;simp only [ah,Bool.and_eq_true,decide_eq_true_eq] at this;exact ⟨this.1.1.1.1.1.2,this.1.1.1.1.2⟩
theorem cK {t:TlbM} (h:cO t=true) (j:Nat) (x:EntM) (hx:t.es[j]?=some x) (hv:x.valid=true):0<=x.level∧x.level<=2:=by
 simp only [cO,ap,Bool.or_eq_true,Bool.and_eq_true] at h;rcases h with h | h
 ·exact dg (ct t true t.es 0 h.2 j x hx) hv
 ·exact dg (ct t false t.es 0 h.2 j x hx) hv
end
structure KM where
 i:TlbM
 d:TlbM
 p:TlbM
def fb:TlbM:=⟨0,0,[]⟩
def k0M:KM:=⟨fb,fb,fb⟩
def aK (k:KM):Bool:=ap k.i false && ap k.d false && ap k.p true
def dS (level va satp pte:Int):EntM:=⟨true,level,eR va level,bk satp,aF pte 32,pte⟩
def ib (t:TlbM) (e:EntM):Bool:=(ap t true && ah e true) || (ap t false && ah e false)
def cI (t:TlbM) (e:EntM):Nat:=(e.tag%t.sets*t.ways).toNat
def gz (t:TlbM) (e:EntM) (pick:Int):Nat:=(eh t.es (cI t e) 0 t.ways.toNat).getD (pick%t.ways).toNat
def bC (t:TlbM) (e:EntM) (pick:Int):TlbM:=
 if ib t e=true∧0<=pick∧pick<=255 then ⟨t.sets,t.ways,t.es.set (cI t e+gz t e pick) e⟩ else t
def ej (va satp pick:Int):List ce->TlbM->TlbM
 | [],p=>p
 | r::rs,p=>ej va satp pick rs (if aw r.2.2 r.1=1 then bC p (dS r.1 va satp r.2.2) pick else p)
def aQ (zs:List Int) (satp va:Int) (up:Bool × Int × Int × Int):Int × Int × Int × List ce:=
 if up.1=true then aR zs va (up.2.2.1-1).toNat (bb up.2.2.2) else bj zs satp va
def iM (k:KM) (kind:Int) (t:TlbM):KM:=if kind=0 then ⟨t,k.d,k.p⟩ else ⟨k.i,t,k.p⟩
def cS (k:KM) (kind:Int):TlbM:=if kind=0 then k.i else k.d
def bg (zs:List Int) (mode:Int) (sum mxr:Bool) (satp:Int) (k:KM) (kind va pick:Int):(Int × Int) × KM:=
 if aK k=false∨kind<0∨2<kind∨mode<0∨2<mode∨pick<0∨255<pick then ((63,0),k0M)
 else if onM mode satp=false then ((0,va),k)
 else if gU va=false then ((dk kind,0),k)
 else if (aS (cS k kind) va (bk satp)).1=true then (el (aS (cS k kind) va (bk satp)).2.2.2 (aS (cS k kind) va (bk satp)).2.2.1 mode sum mxr kind va,k)
 else
  let r:=aQ zs satp va (aS k.p va (bk satp))
  let a:=cf r mode sum mxr kind va
  let k':KM:=⟨k.i,k.d,ej va satp pick r.2.2.2 k.p⟩
  (a,if a.1=0 then iM k' kind (bC (cS k kind) (dS r.2.1 va satp r.2.2.1) pick) else k')
theorem fc {t:TlbM} {p:Bool} (h:ap t p=true):(t.sets=1∨t.sets=2∨t.sets=4∨t.sets=8)∧1<=t.ways∧t.ways<=4∧(t.es.length:Int)=t.sets*t.ways:=by
 simp only [ap,Bool.and_eq_true,bP,decide_eq_true_eq] at h;exact h.1
theorem fd {t:TlbM} {p:Bool} (h:ap t p=true) (j:Nat) (x:EntM) (hx:t.es[j]?=some x):ai t p j x=true:=by
 simp only [ap,Bool.and_eq_true] at h;have:=ct t p t.es 0 h.2 j x hx;simpa using this
theorem gX {t:TlbM} {p:Bool} (h:bP t=true) (hp:∀(j:Nat) x,t.es[j]?=some x->ai t p j x=true):ap t p=true:=by
 simp only [ap,Bool.and_eq_true];exact ⟨h,aW t p t.es 0 (fun j x hx=>by simpa using hp j x hx)⟩
theorem ek {t:TlbM} {p:Bool} (h:ap t p=true):cO t=true:=by
 cases p <;> simp [cO,h]
theorem fe (es:List EntM) (first:Nat):∀(left w r:Nat),eh es first w left=some r->w<=r∧r<w+left
 | 0,w,r,h=>by simp [eh] at h
 | left+1,w,r,h=>by
  rw [eh] at h;split at h
  ·cases h;omega
  ·have:=fe es first left (w+1) r h
   omega
theorem ic (t:TlbM) (e:EntM) (pick:Int) (hw:1<=t.ways) (hw':t.ways<=4):(gz t e pick:Int)<t.ways:=by
 unfold gz;cases h:eh t.es (cI t e) 0 t.ways.toNat with
 | none=>
  simp only [Option.getD_none];have h1:0<=pick%t.ways:=Int.emod_nonneg _ (by omega);have h2:pick%t.ways<t.ways:=Int.emod_lt_of_pos _ (by omega);omega
 | some r=>
  simp only [Option.getD_some];have:=fe _ _ _ _ _ h;omega
theorem gY {t:TlbM} {e:EntM} (ht:0<=e.tag) (hs:t.sets=1∨t.sets=2∨t.sets=4∨t.sets=8) (hw:1<=t.ways):(cI t e:Int)=e.tag%t.sets*t.ways:=by
 unfold cI;have:0<=e.tag%t.sets:=Int.emod_nonneg _ (by omega);have:=Int.mul_nonneg this (by omega:0<=t.ways);omega
theorem ie {t:TlbM} {p:Bool} {e:EntM} {pick:Int} (hv:ap t p=true) (ht:0<=e.tag):((cI t e+gz t e pick:Nat):Int)/t.ways=e.tag%t.sets:=by
 obtain ⟨hs,hw,hw',hl⟩:=fc hv;have h1:=gY (e:=e) ht hs hw;have h2:=ic t e pick hw hw';rw [show ((cI t e+gz t e pick:Nat):Int)=(gz t e pick:Int)+(e.tag%t.sets)*t.ways by omega,Int.add_mul_ediv_right _ _ (by omega)];rw [Int.ediv_eq_zero_of_lt (by omega) h2];omega
theorem gA {e:EntM} {p:Bool} (h:ah e p=true):aw e.pte e.level=bJ p:=by
 simp only [ah,Bool.and_eq_true,beq_iff_eq] at h;exact h.2
theorem cd (t:TlbM) (e:EntM) (pick:Int) (p:Bool) (hv:ap t p=true) (hg:ah e p=true) (ht:0<=e.tag):ap (bC t e pick) p=true:=by
 unfold bC;split
 ·have hs:=fc hv;refine gX ?_ ?_
  ·simp only [bP,decide_eq_true_eq,List.length_set];exact hs
  ·intro j x hx;simp only [List.getElem?_set] at hx;split at hx
   ·rename_i hj;split at hx
    ·cases hx;subst hj;simp only [ai,Bool.or_eq_true,Bool.and_eq_true,beq_iff_eq];exact .inr ⟨hg,(ie (pick:=pick) hv ht).symm⟩
    ·cases hx
   ·exact fd hv j x hx
 ·exact hv
section
attribute [local go_sem ↓] Go.wp_at_zero Go.wp_at_succ
theorem cL (a:Option Addr) (n cap:Nat) (left:Int) (w:World) (hn:(n:Int)<=9223372036854775807) (h0:0<=left) (h1:left<=1048576):
 Calls Try.prog 29 #[.slice a n cap,.int .i64 left] w fun e w'=>e=.returned (.int .i64 (if left<n then -1 else left-n))∧w'=w:=by
 by_cases h:left<n
 ·rw [if_pos h];go_enter Try.func29,Try.ntmps29;go_wp2_with fail;go_ret;exact ⟨rfl,rfl⟩
 ·rw [if_neg h];go_enter Try.func29,Try.ntmps29;go_wp2_with fail;go_ret;exact ⟨rfl,rfl⟩
theorem eL (v:Bool) (l t a:Int) (g:Bool) (p:Int) (w:World):
 Calls Try.prog 17 #[.agg #[.bool v,.int .i64 l,.int .u64 t,.int .u64 a,.bool g,.int .u64 p]] w fun e w'=>e=.returned (.agg #[.bool v,.int .i64 l,.int .u64 t,.int .u64 a,.bool g,.int .u64 p])∧Below w.heap.size w w':=by
 go_enter Try.func17,Try.ntmps17;go_wp2_with fail;exact bodyPost_ret (v:=.agg #[.bool v,.int .i64 l,.int .u64 t,.int .u64 a,.bool g,.int .u64 p]) (by simp [results,Try.results17,go_sem]) rfl ⟨rfl,(((Below.refl _ _).alloc (Nat.le_refl _) _).alloc (by simp) _).alloc (by simp;omega) _⟩
theorem hU (es:List EntM) (ys:List Value) (k n:Nat) (x:EntM) (hx:es[k]?=some x) (hy:ys.length=n*6) (hk:k<n) (hn:es.length=n) (h:∀t,t<k*6->ys[t]?=(ak es)[t]?):
 ∀t,t<(k+1)*6->((((((ys.set (k*6) (.bool x.valid)).set (k*6+1) (.int .i64 x.level)).set (k*6+2) (.int .u64 x.tag)).set (k*6+3) (.int .u64 x.asid)).set (k*6+4) (.bool x.glob)).set (k*6+5) (.int .u64 x.pte))[t]?=(ak es)[t]?:=by
 intro t ht;obtain ⟨hk',rfl⟩:=List.getElem?_eq_some_iff.1 hx;have hj:=fun j hj=>cQ es k j hk' hj;by_cases h0:t<k*6
 ·simp only [List.getElem?_set];rw [if_neg (by omega),if_neg (by omega),if_neg (by omega),if_neg (by omega),if_neg (by omega),if_neg (by omega)];exact h t h0
 ·rcases (show t=k*6∨t=k*6+1∨t=k*6+2∨t=k*6+3∨t=k*6+4∨t=k*6+5 by omega) with rfl | rfl | rfl | rfl | rfl | rfl
  ·have h6:(ak es)[k*6]?=(cz es[k])[0]?:=hj 0 (by omega);rw [h6,List.getElem?_set_ne (by omega),List.getElem?_set_ne (by omega),List.getElem?_set_ne (by omega),List.getElem?_set_ne (by omega),List.getElem?_set_ne (by omega),List.getElem?_set_self (by omega)];rfl
  ·rw [hj 1 (by omega),List.getElem?_set_ne (by omega),List.getElem?_set_ne (by omega),List.getElem?_set_ne (by omega),List.getElem?_set_ne (by omega),List.getElem?_set_self (by simp;omega)];rfl
  ·rw [hj 2 (by omega),List.getElem?_set_ne (by omega),List.getElem?_set_ne (by omega),List.getElem?_set_ne (by omega),List.getElem?_set_self (by simp;omega)];rfl
  ·rw [hj 3 (by omega),List.getElem?_set_ne (by omega),List.getElem?_set_ne (by omega),List.getElem?_set_self (by simp;omega)];rfl
  ·rw [hj 4 (by omega),List.getElem?_set_ne (by omega),List.getElem?_set_self (by simp;omega)];rfl
  ·rw [hj 5 (by omega),List.getElem?_set_self (by simp;omega)];rfl
theorem et (a:Option Addr) (n cap:Nat) (es:List EntM) (w:World) (h:RowC w a n 6 (ak es)) (hn:es.length=n) (hl:n<=1048576):
 Calls Try.prog 31 #[.slice a n cap] w fun e w'=>
  e=.returned (.slice (some ⟨w.heap.size,0,none⟩) n n)∧w'.ownsRow w.heap.size 42 6 (.slice (some ⟨w.heap.size,0,none⟩) n n) n (ak es)∧Below w.heap.size w w':=by
 obtain ⟨i0,hi,hz0,hz1,hz2⟩:=info_parts Try.infoEnt;have HR:Hid (RowC w a n 6 (ak es)):=h;clear h;go_enter Try.func31,Try.ntmps31;go_wp2_with (at_make;refine wpList_make_full _ rfl _ _ 27 rfl w.heap.size 42 i0 (.agg #[.bool false,.int .i64 0,.int .u64 0,.int .u64 0,.bool false,.int .u64 0]) 6 Try.underlying27 hi hz0 hz1 _ _ _ _ n rfl rfl rfl rfl ?b2 ?b3 (Nat.le_refl _) ?_)
 case b2=>rw [hz2];omega
 case b3=>unfold maxLen;omega
 intro w0 hown0 hgrow0;have hn0:Below w.heap.size w w0:=(Below.refl _ _).grown hgrow0 (Nat.le_refl _) (fun k h=>by cases h);have HO0:Hid _:=hown0;clear hown0 hgrow0;go_wp2_with fail;go_loopw [4] (fun i wr=>∃(k:Nat) (ys:List Value),k<=n∧i=.int .i64 k∧(∀t,t<k*6->ys[t]?=(ak es)[t]?)∧wr.ownsRow w.heap.size 42 6 (.slice (some ⟨w.heap.size,0,none⟩) n n) n ys∧Below w.heap.size w wr) (fun i _=>n-(intOf i).toNat)
 case atStart=>exact ⟨0,_,Nat.zero_le _,rfl,fun t ht=>absurd ht (by omega),HO0.out,hn0⟩
 case round=>
  obtain ⟨k,ys,hk,rfl,hyz,hO,hb⟩:=hrel;have HO:Hid (wr.ownsRow w.heap.size 42 6 (.slice (some ⟨w.heap.size,0,none⟩) n n) n ys):=hO;have HZ:Hid (∀t,t<k*6->ys[t]?=(ak es)[t]?):=hyz;have hyl:ys.length=n*6:=hO.1;clear hO hyz;by_cases hlt:k<n
  ·obtain ⟨x,hx⟩:∃x,es[k]?=some x:=⟨_,List.getElem?_eq_getElem (by omega)⟩;obtain ⟨b,off,rfl,hbb⟩:∃b off,a=some ⟨b,off,none⟩∧b<w.heap.size:=by
    rcases HR.out.2 with h | ⟨b,off,h,h2,_⟩
    ·omega
    ·exact ⟨b,off,h,h2⟩
   have CE:∀j u,j<6->(cz x)[j]?=some u->wr.cell? ⟨b,off+(k*6+j),none⟩=some u:=fun j u hj hu=>
    Below.cell2 hb (ay HR.out hn k x hx j u hj hu) hbb
   obtain ⟨vv,lv,tg,asd,gl,pt⟩:=x;have g0:wr.cell? ⟨b,off+k*6,none⟩=some (.bool vv):=CE 0 _ (by omega) rfl;have g1:wr.cell? ⟨b,off+k*6+1,none⟩=some (.int .i64 lv):=CE 1 _ (by omega) rfl;have g2:wr.cell? ⟨b,off+k*6+2,none⟩=some (.int .u64 tg):=CE 2 _ (by omega) rfl;have g3:wr.cell? ⟨b,off+k*6+3,none⟩=some (.int .u64 asd):=CE 3 _ (by omega) rfl;have g4:wr.cell? ⟨b,off+k*6+4,none⟩=some (.bool gl):=CE 4 _ (by omega) rfl;have g5:wr.cell? ⟨b,off+k*6+5,none⟩=some (.int .u64 pt):=CE 5 _ (by omega) rfl;have HX:Hid (es[k]?=some ⟨vv,lv,tg,asd,gl,pt⟩):=hx;clear CE hx;go_wp2_with fail;refine (eL vv lv tg asd gl pt wr).mono ?_;rintro e v2 ⟨rfl,n2⟩;have O2:Hid (v2.ownsRow w.heap.size 42 6 (.slice (some ⟨w.heap.size,0,none⟩) n n) n ys):=aq HO.out n2;have A2:=Below.step hb n2 (Nat.le_refl _);clear g0 g1 g2 g3 g4 g5 HO hb n2;have y0:=aM O2.out (k*6) _ (List.getElem?_eq_getElem (by omega));have y1:=aM O2.out (k*6+1) _ (List.getElem?_eq_getElem (by omega));have y2:=aM O2.out (k*6+2) _ (List.getElem?_eq_getElem (by omega));have y3:=aM O2.out (k*6+3) _ (List.getElem?_eq_getElem (by omega));have y4:=aM O2.out (k*6+4) _ (List.getElem?_eq_getElem (by omega));have y5:=aM O2.out (k*6+5) _ (List.getElem?_eq_getElem (by omega));generalize ys[k*6]'_=z0 at y0;generalize ys[k*6+1]'_=z1 at y1;generalize ys[k*6+2]'_=z2 at y2;generalize ys[k*6+3]'_=z3 at y3;generalize ys[k*6+4]'_=z4 at y4;generalize ys[k*6+5]'_=z5 at y5;have r0:=aN O2.out (k*6);have r1:=aN O2.out (k*6+1);have r2:=aN O2.out (k*6+2);have r3:=aN O2.out (k*6+3);have r4:=aN O2.out (k*6+4);have r5:=aN O2.out (k*6+5);go_wp2_with fail;go_roundw
   case rel=>
    refine ⟨k+1,_,by omega,by go_num,hU es ys k n _ HX.out hyl hlt hn HZ.out,aI (aI (aI (aI (aI (aI O2.out _ _) _ _) _ _) _ _) _ _) _ _,A2.grown (au (au (au (au (au (au (aO v2 (some w.heap.size)) _ _) _ _) _ _) _ _) _ _) _ _) A2.size (fun q hq=>by cases hq;omega)⟩
   case measure=>simp [intOf];omega
  ·have hyy:ys=ak es:=by
    apply List.ext_getElem?;intro t;by_cases ht:t<n*6
    ·exact HZ.out t (by omega)
    ·rw [List.getElem?_eq_none (by omega),List.getElem?_eq_none (by rw [cv];omega)]
   rw [hyy] at HO;clear HZ hyl hyy;go_wp2_with fail;go_ret;exact ⟨rfl,HO.out,hb⟩
theorem cY (sets ways:Int) (a:Option Addr) (n cap:Nat) (es:List EntM) (w:World) (h:RowC w a n 6 (ak es)) (hn:es.length=n) (hl:n<=1048576):
 Calls Try.prog 10 #[.agg #[.int .i64 sets,.int .i64 ways,.slice a n cap]] w fun e w'=>(∃x,e=.returned x∧TlbOwn w.heap.size w' x ⟨sets,ways,es⟩)∧Below w.heap.size w w':=by
 have n1:=(((Below.refl w.heap.size w).alloc (Nat.le_refl _) (Obj.cells #[.int .i64 sets,.int .i64 ways,.slice a n cap] 24)).alloc (by simp) (Obj.cells #[.int .i64 0,.int .i64 0,.slice none 0 0] 29)).alloc (by simp;omega) (Obj.cells #[.int .i64 sets,.int .i64 ways,.slice none 0 0] 29);have HR:Hid (RowC (((w.alloc (Obj.cells #[.int .i64 sets,.int .i64 ways,.slice a n cap] 24)).alloc (Obj.cells #[.int .i64 0,.int .i64 0,.slice none 0 0] 29)).alloc (Obj.cells #[.int .i64 sets,.int .i64 ways,.slice none 0 0] 29)) a n 6 (ak es)):=h.keep n1;have H2:Hid ((((w.alloc (Obj.cells #[.int .i64 sets,.int .i64 ways,.slice a n cap] 24)).alloc (Obj.cells #[.int .i64 0,.int .i64 0,.slice none 0 0] 29)).alloc (Obj.cells #[.int .i64 sets,.int .i64 ways,.slice none 0 0] 29)).heap[w.heap.size+1]?=some (.cells #[.int .i64 0,.int .i64 0,.slice none 0 0] 29 (0,0))):=by
  show _=_;rw [heap_alloc_old _ _ (by simp)];have:=heap_alloc_new (w.alloc (Obj.cells #[.int .i64 sets,.int .i64 ways,.slice a n cap] 24)) (Obj.cells #[.int .i64 0,.int .i64 0,.slice none 0 0] 29);simp only [World.size_alloc] at this;exact this
 have H3:Hid ((((w.alloc (Obj.cells #[.int .i64 sets,.int .i64 ways,.slice a n cap] 24)).alloc (Obj.cells #[.int .i64 0,.int .i64 0,.slice none 0 0] 29)).alloc (Obj.cells #[.int .i64 sets,.int .i64 ways,.slice none 0 0] 29)).heap[w.heap.size+1+1]?=some (.cells #[.int .i64 sets,.int .i64 ways,.slice none 0 0] 29 (0,0))):=by
  have:=heap_alloc_new ((w.alloc (Obj.cells #[.int .i64 sets,.int .i64 ways,.slice a n cap] 24)).alloc (Obj.cells #[.int .i64 0,.int .i64 0,.slice none 0 0] 29)) (Obj.cells #[.int .i64 sets,.int .i64 ways,.slice none 0 0] 29);simp only [World.size_alloc] at this;exact this
 have l1:w.heap.size+1+1<(((w.alloc (Obj.cells #[.int .i64 sets,.int .i64 ways,.slice a n cap] 24)).alloc (Obj.cells #[.int .i64 0,.int .i64 0,.slice none 0 0] 29)).alloc (Obj.cells #[.int .i64 sets,.int .i64 ways,.slice none 0 0] 29)).heap.size:=by simp
 clear h;go_enter Try.func10,Try.ntmps10;go_wp2_with fail;generalize (((w.alloc (Obj.cells #[.int .i64 sets,.int .i64 ways,.slice a n cap] 24)).alloc (Obj.cells #[.int .i64 0,.int .i64 0,.slice none 0 0] 29)).alloc (Obj.cells #[.int .i64 sets,.int .i64 ways,.slice none 0 0] 29))=v1 at n1 HR H2 H3 l1 |-;refine (et a n cap es v1 HR.out hn hl).mono ?_;rintro e v2 ⟨rfl,o2,n2⟩;have O2:Hid (v2.ownsRow v1.heap.size 42 6 (.slice (some ⟨v1.heap.size,0,none⟩) n n) n (ak es)):=o2;have A2:=Below.step n1 n2 (Nat.le_refl _);have K2:=aa H2 n2;have K3:=aa H3 n2;obtain ⟨⟨d0,d1,d2⟩,e0,e1,e2⟩:=ao K2.out;obtain ⟨⟨p0,p1,p2⟩,f0,f1,f2⟩:=ao K3.out;clear o2 n1 n2 HR H2 H3;go_wp2_with fail;refine bodyPost_ret (v:=.agg #[.int .i64 sets,.int .i64 ways,.slice (some ⟨v1.heap.size,0,none⟩) n n]) (by simp [results,Try.results10,go_sem,d0,d1,d2]) rfl ⟨⟨_,rfl,v1.heap.size,n,by simp only;rw [hn],?_⟩,dH (A2.setCell (p:=⟨w.heap.size+1+1,2,none⟩) (by show w.heap.size<=w.heap.size+1+1;omega) _) (by omega) _ _ _⟩;simp only;rw [hn];exact bH (cG (cG O2.out (au (aO v2 (some (w.heap.size+1+1))) 2 _) l1) (gb3 _ (w.heap.size+1) _ _ _) (by omega)) (by omega)
theorem cZ (sets ways:Int) (a:Option Addr) (n cap:Nat) (left:Int) (w:World) (hn:(n:Int)<=9223372036854775807) (h0:0<=left) (h1:left<=1048576):
 Calls Try.prog 8 #[.agg #[.int .i64 sets,.int .i64 ways,.slice a n cap],.int .i64 left] w fun e w'=>e=.returned (.int .i64 (if left<n then -1 else left-n))∧Below w.heap.size w w':=by
 have n1:=(Below.refl w.heap.size w).alloc (Nat.le_refl _) (Obj.cells #[.int .i64 sets,.int .i64 ways,.slice a n cap] 24);by_cases h:left<n
 ·rw [if_pos h];have HS:Hid (∀w,Calls Try.prog 29 #[.slice a n cap,.int .i64 left] w fun e w'=>e=.returned (.int .i64 (-1))∧w'=w):=fun w=>by
   have:=cL a n cap left w hn h0 h1;rw [if_pos h] at this;exact this
  clear h;go_enter Try.func8,Try.ntmps8;go_wp2_with (go_at_call 29;refine (HS.out _).mono ?_;rintro e w' ⟨rfl,rfl⟩);go_ret;exact ⟨rfl,n1⟩
 ·rw [if_neg h];have HS:Hid (∀w,Calls Try.prog 29 #[.slice a n cap,.int .i64 left] w fun e w'=>e=.returned (.int .i64 (left-n))∧w'=w):=fun w=>by
   have:=cL a n cap left w hn h0 h1;rw [if_neg h] at this;exact this
  have h':decide (left-(n:Int)<0)=false:=by rw [decide_eq_false_iff_not];omega
  clear h;go_enter Try.func8,Try.ntmps8;go_wp2_with (go_at_call 29;refine (HS.out _).mono ?_;rintro e w' ⟨rfl,rfl⟩);go_ret;exact ⟨rfl,n1⟩
end
section
attribute [local go_sem ↓] Go.wp_at_zero Go.wp_at_succ
theorem ex (v:Bool) (l t a:Int) (g:Bool) (p:Int) (w:World):
 Calls Try.prog 71 #[.agg #[.bool v,.int .i64 l,.int .u64 t,.int .u64 a,.bool g,.int .u64 p],.agg #[.bool v,.int .i64 l,.int .u64 t,.int .u64 a,.bool g,.int .u64 p]] w fun e w'=>e=.returned (.bool true)∧Below w.heap.size w w':=by
 cases v <;> cases g;all_goals
  go_enter Try.func71,Try.ntmps71;go_wp2_with fail;go_ret;exact ⟨rfl,((Below.refl _ _).alloc (Nat.le_refl _) _).alloc (by simp) _⟩
theorem dQ (a b:Option Addr) (n ca cb:Nat) (es:List EntM) (w:World) (h:RowC w a n 6 (ak es)) (h':RowC w b n 6 (ak es)) (hn:es.length=n) (hl:n<=1048576):
 Calls Try.prog 34 #[.slice a n ca,.slice b n cb] w fun e w'=>e=.returned (.bool true)∧Below w.heap.size w w':=by
 have HR:Hid (RowC w a n 6 (ak es)):=h;have HR':Hid (RowC w b n 6 (ak es)):=h';clear h h';go_enter Try.func34,Try.ntmps34;go_wp2_with fail;go_loopw [5] (fun i wr=>∃(k:Nat),k<=n∧i=.int .i64 k∧Below w.heap.size w wr) (fun i _=>n-(intOf i).toNat)
 case atStart=>exact ⟨0,Nat.zero_le _,rfl,Below.refl _ _⟩
 case round=>
  obtain ⟨k,hk,rfl,hb⟩:=hrel;by_cases hlt:k<n
  ·obtain ⟨x,hx⟩:∃x:EntM,es[k]?=some x:=⟨_,List.getElem?_eq_getElem (by omega)⟩;have R1:=RowC.keep HR.out hb;have R2:=RowC.keep HR'.out hb;obtain ⟨b1,o1,rfl,lb1⟩:∃b1 o1,a=some ⟨b1,o1,none⟩∧b1<wr.heap.size:=by
    rcases R1.2 with h | ⟨b1,o1,h,h2,_⟩
    ·omega
    ·exact ⟨b1,o1,h,h2⟩
   obtain ⟨b2,o2,rfl,lb2⟩:∃b2 o2,b=some ⟨b2,o2,none⟩∧b2<wr.heap.size:=by
    rcases R2.2 with h | ⟨b2,o2,h,h2,_⟩
    ·omega
    ·exact ⟨b2,o2,h,h2⟩
   obtain ⟨vv,lv,tg,asd,gl,pt⟩:=x;have C1:=fun j u hj hu=>an (ay R1 hn k _ hx j u hj hu) lb1;have C2:=fun j u hj hu=>an (ay R2 hn k _ hx j u hj hu) lb2;have g0:∀u:Lies wr,u.w.cell? ⟨b1,o1+k*6,none⟩=some (.bool vv):=C1 0 _ (by omega) rfl;have g1:∀u:Lies wr,u.w.cell? ⟨b1,o1+k*6+1,none⟩=some (.int .i64 lv):=C1 1 _ (by omega) rfl;have g2:∀u:Lies wr,u.w.cell? ⟨b1,o1+k*6+2,none⟩=some (.int .u64 tg):=C1 2 _ (by omega) rfl;have g3:∀u:Lies wr,u.w.cell? ⟨b1,o1+k*6+3,none⟩=some (.int .u64 asd):=C1 3 _ (by omega) rfl;have g4:∀u:Lies wr,u.w.cell? ⟨b1,o1+k*6+4,none⟩=some (.bool gl):=C1 4 _ (by omega) rfl;have g5:∀u:Lies wr,u.w.cell? ⟨b1,o1+k*6+5,none⟩=some (.int .u64 pt):=C1 5 _ (by omega) rfl;have f0:∀u:Lies wr,u.w.cell? ⟨b2,o2+k*6,none⟩=some (.bool vv):=C2 0 _ (by omega) rfl;have f1:∀u:Lies wr,u.w.cell? ⟨b2,o2+k*6+1,none⟩=some (.int .i64 lv):=C2 1 _ (by omega) rfl;have f2:∀u:Lies wr,u.w.cell? ⟨b2,o2+k*6+2,none⟩=some (.int .u64 tg):=C2 2 _ (by omega) rfl;have f3:∀u:Lies wr,u.w.cell? ⟨b2,o2+k*6+3,none⟩=some (.int .u64 asd):=C2 3 _ (by omega) rfl;have f4:∀u:Lies wr,u.w.cell? ⟨b2,o2+k*6+4,none⟩=some (.bool gl):=C2 4 _ (by omega) rfl;have f5:∀u:Lies wr,u.w.cell? ⟨b2,o2+k*6+5,none⟩=some (.int .u64 pt):=C2 5 _ (by omega) rfl;have ne:=bT wr;clear C1 C2 R1 R2 hx;go_wp2_with fail;refine ac (by kernel_rfl) (by kernel_rfl) ?_;repeat (go_big_quiet_step ((go_at_call 71;exact aj _ (ex _ _ _ _ _ _ _))))
   refine wpQuiet_nil ?_;rintro _ ⟨u,rfl⟩;have hb2:=Below.step hb u.h (Nat.le_refl _);generalize u.w=v2 at hb2 |-;clear g0 g1 g2 g3 g4 g5 f0 f1 f2 f3 f4 f5 hb;go_wp2_with fail;go_roundw
   case rel=>exact ⟨k+1,by omega,by go_num,hb2⟩
   case measure=>simp [intOf];omega
  ·clear HR HR';go_wp2_with fail;go_ret;exact ⟨rfl,hb⟩
theorem fB (sets ways:Int) (a b:Option Addr) (n ca cb:Nat) (es:List EntM) (w:World) (h:RowC w a n 6 (ak es)) (h':RowC w b n 6 (ak es)) (hn:es.length=n) (hl:n<=1048576):
 Calls Try.prog 12 #[.agg #[.int .i64 sets,.int .i64 ways,.slice a n ca],.agg #[.int .i64 sets,.int .i64 ways,.slice b n cb]] w fun e w'=>e=.returned (.bool true)∧Below w.heap.size w w':=by
 have n1:=((Below.refl w.heap.size w).alloc (Nat.le_refl _) (Obj.cells #[.int .i64 sets,.int .i64 ways,.slice a n ca] 29)).alloc (by simp) (Obj.cells #[.int .i64 sets,.int .i64 ways,.slice b n cb] 29);have HR:Hid (RowC _ a n 6 (ak es)):=RowC.keep h n1;have HR':Hid (RowC _ b n 6 (ak es)):=RowC.keep h' n1;clear h h';go_enter Try.func12,Try.ntmps12;go_wp2_with fail;refine (dQ a b n ca cb es _ HR.out HR'.out hn hl).mono ?_;rintro e v2 ⟨rfl,n2⟩;have n12:=Below.step n1 n2 (Nat.le_refl _);clear n1 n2 HR HR';go_wp2_with fail;go_ret;exact ⟨rfl,n12⟩
end
section
attribute [local go_sem ↓] Go.wp_at_zero Go.wp_at_succ
theorem TlbOwn.drew {base:Nat} {w:World} {v:Value} {t:TlbM} (h:TlbOwn base w v t):TlbOwn base w.drew v t:=h
end
section
attribute [local go_sem ↓] Go.wp_at_zero Go.wp_at_succ
theorem az {v:World} {p:Nat} {T:TypeId} {a b c d e f g h i:Value} (hh:v.heap[p]?=some (.cells #[a,b,c,d,e,f,g,h,i] T (0,0))):
 v.cell? ⟨p,0,none⟩=some a∧v.cell? ⟨p,1,none⟩=some b∧v.cell? ⟨p,2,none⟩=some c∧v.cell? ⟨p,3,none⟩=some d∧v.cell? ⟨p,4,none⟩=some e∧v.cell? ⟨p,5,none⟩=some f∧v.cell? ⟨p,6,none⟩=some g∧v.cell? ⟨p,7,none⟩=some h∧v.cell? ⟨p,8,none⟩=some i:=by
 simp [World.cell?,hh]
theorem ja {B:Nat} {a w:World} {g:Nat} (h:Below B a w) (hg:B<=g) (x y z u v t:Value):Below B a ((((((w.setCell ⟨g,0,none⟩ x).setCell ⟨g,1,none⟩ y).setCell ⟨g,2,none⟩ z).setCell ⟨g,3,none⟩ u).setCell ⟨g,4,none⟩ v).setCell ⟨g,5,none⟩ t):=
 (((dH h hg x y z).setCell (p:=⟨g,3,none⟩) hg u).setCell (p:=⟨g,4,none⟩) hg v).setCell (p:=⟨g,5,none⟩) hg t
theorem iJ {B:Nat} {a w:World} {g:Nat} (h:Below B a w) (hg:B<=g) (x y z u v t p q r:Value):Below B a (((((((((w.setCell ⟨g,0,none⟩ x).setCell ⟨g,1,none⟩ y).setCell ⟨g,2,none⟩ z).setCell ⟨g,3,none⟩ u).setCell ⟨g,4,none⟩ v).setCell ⟨g,5,none⟩ t).setCell ⟨g,6,none⟩ p).setCell ⟨g,7,none⟩ q).setCell ⟨g,8,none⟩ r):=
 (((ja h hg x y z u v t).setCell (p:=⟨g,6,none⟩) hg p).setCell (p:=⟨g,7,none⟩) hg q).setCell (p:=⟨g,8,none⟩) hg r
theorem gb9 (w:World) (g:Nat) (x y z u v t p q r:Value):w.grownBy (((((((((w.setCell ⟨g,0,none⟩ x).setCell ⟨g,1,none⟩ y).setCell ⟨g,2,none⟩ z).setCell ⟨g,3,none⟩ u).setCell ⟨g,4,none⟩ v).setCell ⟨g,5,none⟩ t).setCell ⟨g,6,none⟩ p).setCell ⟨g,7,none⟩ q).setCell ⟨g,8,none⟩ r) (some g):=
 au (au (au (au (au (au (au (au (au (aO w (some g)) 0 x) 1 y) 2 z) 3 u) 4 v) 5 t) 6 p) 7 q) 8 r
theorem bX {v:World} {p:Nat} {T:TypeId} {cs:Array Value} (hh:v.heap[p]?=some (.cells cs T (0,0))) (i:Nat):v.frozen? ⟨p,i,none⟩=false:=by
 simp [World.frozen?,hh]
def KAt (w:World) (v:Value) (k:KM):Prop:=
 ∃a1 c1 a2 c2 a3 c3,v=.agg #[.int .i64 k.i.sets,.int .i64 k.i.ways,.slice a1 k.i.es.length c1,.int .i64 k.d.sets,.int .i64 k.d.ways,.slice a2 k.d.es.length c2,.int .i64 k.p.sets,.int .i64 k.p.ways,.slice a3 k.p.es.length c3]∧
  TlbAt w (.agg #[.int .i64 k.i.sets,.int .i64 k.i.ways,.slice a1 k.i.es.length c1]) k.i∧TlbAt w (.agg #[.int .i64 k.d.sets,.int .i64 k.d.ways,.slice a2 k.d.es.length c2]) k.d∧TlbAt w (.agg #[.int .i64 k.p.sets,.int .i64 k.p.ways,.slice a3 k.p.es.length c3]) k.p
theorem KAt.keep {w w':World} {v:Value} {k:KM} (h:KAt w v k) (hb:Below w.heap.size w w'):KAt w' v k:=by
 obtain ⟨a1,c1,a2,c2,a3,c3,rfl,h1,h2,h3⟩:=h;exact ⟨a1,c1,a2,c2,a3,c3,rfl,h1.keep hb,h2.keep hb,h3.keep hb⟩
theorem bY (v:Value) (k:KM) (w:World) (h:KAt w v k):
 Calls Try.prog 54 #[v] w fun e w'=>e=.returned (.bool (aK k))∧Below w.heap.size w w':=by
 obtain ⟨a1,c1,a2,c2,a3,c3,rfl,t1,t2,t3⟩:=h;obtain ⟨q1,hq1⟩:∃q,ap k.i false=q:=⟨_,rfl⟩;obtain ⟨q2,hq2⟩:∃q,ap k.d false=q:=⟨_,rfl⟩;obtain ⟨q3,hq3⟩:∃q,ap k.p true=q:=⟨_,rfl⟩;unfold aK;rw [hq1,hq2,hq3];have n1:=(Below.refl w.heap.size w).alloc (Nat.le_refl _) (Obj.cells #[.int .i64 k.i.sets,.int .i64 k.i.ways,.slice a1 k.i.es.length c1,.int .i64 k.d.sets,.int .i64 k.d.ways,.slice a2 k.d.es.length c2,.int .i64 k.p.sets,.int .i64 k.p.ways,.slice a3 k.p.es.length c3] 61);have HV1:Hid (∀v,Below w.heap.size w v->Calls Try.prog 9 #[.agg #[.int .i64 k.i.sets,.int .i64 k.i.ways,.slice a1 k.i.es.length c1],.bool false] v fun e w'=>e=.returned (.bool q1)∧Below v.heap.size v w'):=fun v hv=>by
  have:=bQ _ _ false v (t1.keep hv);rw [hq1] at this;exact this
 have HV2:Hid (∀v,Below w.heap.size w v->Calls Try.prog 9 #[.agg #[.int .i64 k.d.sets,.int .i64 k.d.ways,.slice a2 k.d.es.length c2],.bool false] v fun e w'=>e=.returned (.bool q2)∧Below v.heap.size v w'):=fun v hv=>by
  have:=bQ _ _ false v (t2.keep hv);rw [hq2] at this;exact this
 have HV3:Hid (∀v,Below w.heap.size w v->Calls Try.prog 9 #[.agg #[.int .i64 k.p.sets,.int .i64 k.p.ways,.slice a3 k.p.es.length c3],.bool true] v fun e w'=>e=.returned (.bool q3)∧Below v.heap.size v w'):=fun v hv=>by
  have:=bQ _ _ true v (t3.keep hv);rw [hq3] at this;exact this
 have H1:Hid (∀v,Below (w.heap.size+1) (w.alloc (Obj.cells #[.int .i64 k.i.sets,.int .i64 k.i.ways,.slice a1 k.i.es.length c1,.int .i64 k.d.sets,.int .i64 k.d.ways,.slice a2 k.d.es.length c2,.int .i64 k.p.sets,.int .i64 k.p.ways,.slice a3 k.p.es.length c3] 61)) v->v.heap[w.heap.size]?=some (.cells #[.int .i64 k.i.sets,.int .i64 k.i.ways,.slice a1 k.i.es.length c1,.int .i64 k.d.sets,.int .i64 k.d.ways,.slice a2 k.d.es.length c2,.int .i64 k.p.sets,.int .i64 k.p.ways,.slice a3 k.p.es.length c3] 61 (0,0))):=
  fun v hv=>(hv.block w.heap.size (by omega)).trans (heap_alloc_new w _)
 clear t1 t2 t3 hq1 hq2 hq3;generalize k.i.sets=s1 at *;generalize k.i.ways=w1 at *;generalize k.i.es.length=m1 at *;generalize k.d.sets=s2 at *;generalize k.d.ways=w2 at *;generalize k.d.es.length=m2 at *;generalize k.p.sets=s3 at *;generalize k.p.ways=w3 at *;generalize k.p.es.length=m3 at *;cases q1
 ·go_enter Try.func54,Try.ntmps54;go_wp2_with fail;refine (HV1.out _ n1).mono ?_;rintro e v2 ⟨rfl,n2⟩;have n12:=Below.step n1 n2 (Nat.le_refl _);go_wp2_with fail;go_ret;exact ⟨rfl,n12⟩
 ·go_enter Try.func54,Try.ntmps54;go_wp2_with fail;refine (HV1.out _ n1).mono ?_;rintro e v2 ⟨rfl,n2⟩;have n12:=Below.step n1 n2 (Nat.le_refl _);have K2:=az (H1.out v2 (n2.mono (by simp)));obtain ⟨x0,x1,x2,x3,x4,x5,x6,x7,x8⟩:=K2;cases q2
  ·go_wp2_with fail;refine (HV2.out _ n12).mono ?_;rintro e v3 ⟨rfl,n3⟩;have n13:=Below.step n12 n3 (Nat.le_refl _);go_wp2_with fail;go_ret;exact ⟨rfl,n13⟩
  ·go_wp2_with fail;refine (HV2.out _ n12).mono ?_;rintro e v3 ⟨rfl,n3⟩;have n13:=Below.step n12 n3 (Nat.le_refl _);have n23:=Below.step n2 n3 (Nat.le_refl _);clear x0 x1 x2 x3 x4 x5 x6 x7 x8;have K3:=az (H1.out v3 (n23.mono (by simp)));obtain ⟨x0,x1,x2,x3,x4,x5,x6,x7,x8⟩:=K3;go_wp2_with fail;refine (HV3.out _ n13).mono ?_;rintro e v4 ⟨rfl,n4⟩;have n14:=Below.step n13 n4 (Nat.le_refl _);go_wp2_with fail;go_ret;exact ⟨by simp,n14⟩
def KOwn (base:Nat) (w:World) (v:Value) (k:KM):Prop:=
 ∃g1 c1 g2 c2 g3 c3,v=.agg #[.int .i64 k.i.sets,.int .i64 k.i.ways,.slice (some ⟨g1,0,none⟩) k.i.es.length c1,.int .i64 k.d.sets,.int .i64 k.d.ways,.slice (some ⟨g2,0,none⟩) k.d.es.length c2,.int .i64 k.p.sets,.int .i64 k.p.ways,.slice (some ⟨g3,0,none⟩) k.p.es.length c3]∧
  w.ownsRow base 42 6 (.slice (some ⟨g1,0,none⟩) k.i.es.length c1) k.i.es.length (ak k.i.es)∧w.ownsRow base 42 6 (.slice (some ⟨g2,0,none⟩) k.d.es.length c2) k.d.es.length (ak k.d.es)∧w.ownsRow base 42 6 (.slice (some ⟨g3,0,none⟩) k.p.es.length c3) k.p.es.length (ak k.p.es)
theorem KOwn.at {base:Nat} {w:World} {v:Value} {k:KM} (h:KOwn base w v k) (h1:bw k.i) (h2:bw k.d) (h3:bw k.p):KAt w v k:=by
 obtain ⟨g1,c1,g2,c2,g3,c3,rfl,o1,o2,o3⟩:=h;exact ⟨some ⟨g1,0,none⟩,c1,some ⟨g2,0,none⟩,c2,some ⟨g3,0,none⟩,c3,rfl,TlbOwn.at ⟨g1,c1,rfl,o1⟩ h1,TlbOwn.at ⟨g2,c2,rfl,o2⟩ h2,TlbOwn.at ⟨g3,c3,rfl,o3⟩ h3⟩
end
theorem cF (zs:List Int) (va:Int):∀(l:Nat) (n:Int),(aR zs va l n).1=1∨(aR zs va l n).1=2∨(aR zs va l n).1=3
 | 0,n=>by
  unfold aR;split
  ·simp
  ·split
   ·simp
   ·split <;> simp
 | l+1,n=>by
  unfold aR;split
  ·simp
  ·split
   ·simp
   ·split
    ·simp
    ·exact cF zs va l _
theorem fF (zs:List Int) (root va:Int):(bj zs root va).1=1∨(bj zs root va).1=2∨(bj zs root va).1=3:=by
 unfold bj;split
 ·simp
 ·exact cF zs va 2 _
end Go.Proofs.Ytfgogedgolgnaaa
