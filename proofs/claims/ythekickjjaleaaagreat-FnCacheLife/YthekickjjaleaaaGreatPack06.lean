import Derived.Deep.CutRange
import Derived.Test.YthekickjjaleaaaGreatPack05
namespace Go.Proofs.YthekickjjaleaaaGreat
open Go.RowKit
set_option linter.unusedVariables false
attribute [local go_sem ↓] Go.wp_at_zero Go.wp_at_succ
def aG:List EntM→List Value
 | []=>[]
 | e::r=>gX e++aG r
def TlbAt (w:World) (v:Value) (t:TlbM):Prop:=
 ∃a cap,v=.agg #[.int .i64 t.sets,.int .i64 t.ways,.slice a t.es.length cap]∧RowC w a t.es.length 6 (aG t.es)∧(∀e∈t.es,da e)∧
  (-9223372036854775808≤t.sets∧t.sets≤9223372036854775807)∧(-9223372036854775808≤t.ways∧t.ways≤9223372036854775807)∧t.es.length≤1048576∧t.es.length≤cap∧cap≤9223372036854775807∧(a=none→t.es.length=0∧cap=0)∧(∀q,a=some q→q.spot=none)
theorem dC:∀es:List EntM,(aG es).length=es.length*6
 | []=>rfl
 | e::r=>by simp [aG,gX,dC r];omega
theorem kU:∀(es:List EntM) (i j:Nat) (hi:i<es.length),j<6→(aG es)[i*6+j]?=(gX es[i])[j]?
 | e::r,0,j,hi,hj=>by
  simp only [aG,List.getElem_cons_zero,Nat.zero_mul,Nat.zero_add];rw [List.getElem?_append_left (by simp [gX];exact hj)]
 | e::r,i+1,j,hi,hj=>by
  simp only [aG,List.getElem_cons_succ];rw [List.getElem?_append_right (by simp [gX];omega)];have:(i+1)*6+j-(gX e).length=i*6+j:=by simp [gX];omega
  rw [this];exact kU r i j (by simpa using hi) hj
def fF (t:TlbM):Bool:=decide ((t.sets=1∨t.sets=2∨t.sets=4∨t.sets=8)∧1≤t.ways∧t.ways≤4∧(t.es.length:Int)=t.sets*t.ways)
def bK (t:TlbM) (p:Bool) (i:Nat) (e:EntM):Bool:=
 (e.valid == false && e.level == 0 && e.tag == 0 && e.asid == 0 && e.glob == false && e.pte == 0) || (aO e p && (e.tag%t.sets == (i:Int)/t.ways))
def ez (t:TlbM) (p:Bool):Nat→List EntM→Bool
 | _,[]=>true
 | i,e::r=>bK t p i e && ez t p (i+1) r
def aI (t:TlbM) (p:Bool):Bool:=fF t && ez t p 0 t.es
theorem eQ (t:TlbM) (p:Bool):∀(es:List EntM) (i:Nat),(∀j x,es[j]?=some x→bK t p (i+j) x=true)→ez t p i es=true
 | [],i,h=>rfl
 | e::r,i,h=>by
  simp only [ez,Bool.and_eq_true];refine ⟨by simpa using h 0 e rfl,eQ t p r (i+1) (fun j x hx=>?_)⟩;have:=h (j+1) x (by simpa using hx);rw [show i+1+j=i+(j+1) by omega];exact this
theorem fG (t:TlbM) (p:Bool):∀(es:List EntM) (i j:Nat) (x:EntM),es[j]?=some x→bK t p (i+j) x=false→ez t p i es=false
 | e::r,i,0,x,hx,h=>by
  simp at hx;subst hx;simp only [ez,Nat.add_zero] at h ⊢;rw [h];rfl
 | e::r,i,j+1,x,hx,h=>by
  simp only [ez];rw [fG t p r (i+1) j x (by simpa using hx) (by rw [show i+1+j=i+(j+1) by omega];exact h),Bool.and_false]
theorem rP {x:EntM} {p:Bool} (h:aO x p=true):x.tag<512:=by
 simp only [aO,Bool.and_eq_true,decide_eq_true_eq] at h;have h1:=h.1.1.1.2;unfold jo at h1;split at h1
 ·exact h1
 ·split at h1 <;> omega
theorem dG {w:World} {b off n:Nat} {es:List EntM} (h:RowC w (some ⟨b,off,none⟩) n 6 (aG es)) (hn:es.length=n) (k:Nat) (x:EntM) (hx:es[k]?=some x) (j:Nat) (v:Value) (hj:j<6) (hv:(gX x)[j]?=some v):
 w.cell? ⟨b,off+(k*6+j),none⟩=some v:=by
 have hk:k<es.length:=(List.getElem?_eq_some_iff.1 hx).1;rcases h.2 with h0 | ⟨b',off',e,_,hc⟩
 ·omega
 ·simp at e;obtain ⟨rfl,rfl⟩:=e;refine hc _ _ ?_;rw [kU es k j hk hj];rw [List.getElem?_eq_getElem hk] at hx;simp at hx;rw [hx];exact hv
set_option maxHeartbeats 6400000 in
theorem rQ (s:Int) (hs:s=1∨s=2∨s=4∨s=8) (b off:Nat) (cap:Nat) (ways:Int) (es:List EntM) (n:Nat) (p:Bool) (w:World) (hr:RowC w (some ⟨b,off,none⟩) n 6 (aG es)) (he:∀e∈es,da e) (hl:n≤1048576) (hN:es.length=n)
 (hw:1≤ways) (hw':ways≤4) (hn:(n:Int)=s*ways):
  Calls Tryz.prog 31 #[.agg #[.int .i64 s,.int .i64 ways,.slice (some ⟨b,off,none⟩) n cap],.bool p] w fun e w'=>e=.returned (.bool (ez ⟨s,ways,es⟩ p 0 es))∧Below w.heap.size w w':=by
 have a1:=eH w #[.int .i64 s,.int .i64 ways,.slice (some ⟨b,off,none⟩) n cap] 41;have hn':((n:Int) != s*ways)=false:=by rw [bne_eq_false_iff_eq];omega
 have HN:Hid (es.length=n):=hN;have HR:Hid (RowC w (some ⟨b,off,none⟩) n 6 (aG es)):=hr;have HE:Hid (∀e∈es,da e):=he;obtain ⟨R,hR⟩:∃R,ez ⟨s,ways,es⟩ p 0 es=R:=⟨_,rfl⟩;rw [hR];have HP:Hid (ez ⟨s,ways,es⟩ p 0 es=R):=hR;clear hN hr he hn hR;go_enter Tryz.func31,Tryz.ntmps31;go_upto_region 1 with fail;generalize w.alloc (Obj.cells #[.int .i64 s,.int .i64 ways,.slice (some ⟨b,off,none⟩) n cap] 41)=v1 at a1 ⊢;obtain ⟨l1,c1,n1⟩:=a1;have c10:v1.cell? ⟨w.heap.size,0,none⟩=some (.int .i64 s):=c1 0;have c11:v1.cell? ⟨w.heap.size,1,none⟩=some (.int .i64 ways):=c1 1;have c12:v1.cell? ⟨w.heap.size,2,none⟩=some (.slice (some ⟨b,off,none⟩) n cap):=c1 2;clear c1;go_cut [45] from 7 to 44 (fun x wx=>x=.bool false∧v1=wx)
 case first=>
  clear HP;rcases hs with rfl | rfl | rfl | rfl <;> (try simp only [Int.one_mul] at hn') <;> (go_wp2_with fail;go_meet;case rel=>exact ⟨by first | rfl | (rw [hn'];done) | (simp;omega),rfl⟩)
 case rest=>
 obtain ⟨rfl,rfl⟩:=hcut;go_wp2_with fail;go_loopw [5] (fun i wr=>∃k:Nat,k≤n∧i=.int .i64 k∧(∀j x,j<k→es[j]?=some x→bK ⟨s,ways,es⟩ p j x=true)∧Below v1.heap.size v1 wr) (fun i _=>n-(intOf i).toNat)
 case atStart=>exact ⟨0,Nat.zero_le _,rfl,fun j x hj=>absurd hj (by omega),Below.refl _ _⟩
 case round=>
  obtain ⟨k,hk,rfl,hall,hb⟩:=hrel;have HA:Hid (∀j x,j<k→es[j]?=some x→bK ⟨s,ways,es⟩ p j x=true):=hall;clear hall;have d10:=Below.cell2 hb c10 l1;have d11:=Below.cell2 hb c11 l1;have d12:=Below.cell2 hb c12 l1;have l2:w.heap.size<wr.heap.size:=Nat.lt_of_lt_of_le l1 hb.size;have n1r:=Below.step n1 hb (Nat.le_refl _);by_cases hlt:k<n
  ·have hx:∃x:EntM,es[k]?=some x:=⟨_,List.getElem?_eq_getElem (by have:=HN.out;omega)⟩;obtain ⟨⟨v,lv,tg,asd,gl,pt⟩,hx⟩:=hx;have hok:da ⟨v,lv,tg,asd,gl,pt⟩:=HE.out _ (List.mem_of_getElem? hx);have HRr:=RowC.keep HR.out n1r;have g0:wr.cell? ⟨b,off+k*6,none⟩=some (.bool v):=dG HRr HN.out k _ hx 0 _ (by omega) rfl;have g1:wr.cell? ⟨b,off+k*6+1,none⟩=some (.int .i64 lv):=dG HRr HN.out k _ hx 1 _ (by omega) rfl;have g2:wr.cell? ⟨b,off+k*6+2,none⟩=some (.int .u64 tg):=dG HRr HN.out k _ hx 2 _ (by omega) rfl;have g3:wr.cell? ⟨b,off+k*6+3,none⟩=some (.int .u64 asd):=dG HRr HN.out k _ hx 3 _ (by omega) rfl;have g4:wr.cell? ⟨b,off+k*6+4,none⟩=some (.bool gl):=dG HRr HN.out k _ hx 4 _ (by omega) rfl;have g5:wr.cell? ⟨b,off+k*6+5,none⟩=some (.int .u64 pt):=dG HRr HN.out k _ hx 5 _ (by omega) rfl;have HX:Hid (es[k]?=some ⟨v,lv,tg,asd,gl,pt⟩):=hx;have HPf:Hid (bK ⟨s,ways,es⟩ p k ⟨v,lv,tg,asd,gl,pt⟩=false→false=R):=fun h=>by rw [←HP.out];exact (fG _ p es 0 k _ hx (by rw [Nat.zero_add];exact h)).symm
   have HPt:Hid (bK ⟨s,ways,es⟩ p k ⟨v,lv,tg,asd,gl,pt⟩=true→∀j x,j<k+1→es[j]?=some x→bK ⟨s,ways,es⟩ p j x=true):=fun h j x hj hx'=>by
    by_cases e:j=k
    ·subst e;rw [hx] at hx';cases hx';exact h
    ·exact HA.out j x (by omega) hx'
   clear hx HRr;have a2:=eH wr #[.bool v,.int .i64 lv,.int .u64 tg,.int .u64 asd,.bool gl,.int .u64 pt] 83;go_wp2_with fail;generalize wr.alloc (Obj.cells #[.bool v,.int .i64 lv,.int .u64 tg,.int .u64 asd,.bool gl,.int .u64 pt] 83)=v2 at a2 ⊢;obtain ⟨l3,c2,n2⟩:=a2;have k0:=aR (c2 0) l3;have k1:=aR (c2 1) l3;have k2:=aR (c2 2) l3;have k3:=aR (c2 3) l3;have k4:=aR (c2 4) l3;have k5:=aR (c2 5) l3;have j0:=aR (Below.cell2 n2 d10 l2) (Nat.lt_trans l2 l3);have j1:=aR (Below.cell2 n2 d11 l2) (Nat.lt_trans l2 l3);have hb2:=Below.step hb n2 (Nat.le_refl _);have n12:=Below.step n1 hb2 (Nat.le_refl _);have ne:=dZ v2;clear c2 d10 d11 d12 hb n2 g0 g1 g2 g3 g4 g5 c10 c11 c12 n1r;obtain ⟨gd,hgd⟩:∃gd,aO ⟨v,lv,tg,asd,gl,pt⟩ p=gd:=⟨_,rfl⟩;have HGd:Hid (∀u:Lies v2,Calls Tryz.prog 101 #[gx ⟨v,lv,tg,asd,gl,pt⟩,.bool p] u.w fun e w'=>e=.returned (.bool gd)∧Below u.w.heap.size u.w w'):=fun u=>by
    have:=i7 ⟨v,lv,tg,asd,gl,pt⟩ p u.w hok;rw [hgd] at this;exact this
   have HGv:Hid (aO ⟨v,lv,tg,asd,gl,pt⟩ p=gd):=hgd;clear hgd;cases v
   ·have hgf:gd=false:=by rw [←HGv.out];simp [aO]
    subst hgf;by_cases q1n:¬(lv=0)
    ·have q1:(lv == 0)=false:=by simpa using q1n
     have HQ:Hid ((lv == 0)=false):=q1;clear q1n;refine cC (by kernel_rfl) (by kernel_rfl) ?_;repeat (go_big_quiet_step ((go_at_call 101;exact bP _ (HGd.out _))))
     refine wpQuiet_nil ?_;rintro _ ⟨u,rfl⟩;go_wp2_with fail;go_ret;exact ⟨aF (HPf.out (by simp [bK,HGv.out,HQ.out])),Below.step n12 u.h (Nat.le_refl _)⟩
    have q1z:lv=0:=Decidable.not_not.1 q1n;subst q1z;clear q1n;by_cases q2n:¬(tg=0)
    ·have q2:(tg == 0)=false:=by simpa using q2n
     have HQ:Hid ((tg == 0)=false):=q2;clear q2n;refine cC (by kernel_rfl) (by kernel_rfl) ?_;repeat (go_big_quiet_step ((go_at_call 101;exact bP _ (HGd.out _))))
     refine wpQuiet_nil ?_;rintro _ ⟨u,rfl⟩;go_wp2_with fail;go_ret;exact ⟨aF (HPf.out (by simp [bK,HGv.out,HQ.out])),Below.step n12 u.h (Nat.le_refl _)⟩
    have q2z:tg=0:=Decidable.not_not.1 q2n;subst q2z;clear q2n;by_cases q3n:¬(asd=0)
    ·have q3:(asd == 0)=false:=by simpa using q3n
     have HQ:Hid ((asd == 0)=false):=q3;clear q3n;refine cC (by kernel_rfl) (by kernel_rfl) ?_;repeat (go_big_quiet_step ((go_at_call 101;exact bP _ (HGd.out _))))
     refine wpQuiet_nil ?_;rintro _ ⟨u,rfl⟩;go_wp2_with fail;go_ret;exact ⟨aF (HPf.out (by simp [bK,HGv.out,HQ.out])),Below.step n12 u.h (Nat.le_refl _)⟩
    have q3z:asd=0:=Decidable.not_not.1 q3n;subst q3z;clear q3n;cases hgl:gl
    ·subst hgl;by_cases q5n:¬(pt=0)
     ·have q5:(pt == 0)=false:=by simpa using q5n
      have HQ:Hid ((pt == 0)=false):=q5;clear q5n;refine cC (by kernel_rfl) (by kernel_rfl) ?_;repeat (go_big_quiet_step ((go_at_call 101;exact bP _ (HGd.out _))))
      refine wpQuiet_nil ?_;rintro _ ⟨u,rfl⟩;go_wp2_with fail;go_ret;exact ⟨aF (HPf.out (by simp [bK,HGv.out,HQ.out])),Below.step n12 u.h (Nat.le_refl _)⟩
     have q5z:pt=0:=Decidable.not_not.1 q5n;subst q5z;clear q5n;refine cC (by kernel_rfl) (by kernel_rfl) ?_;repeat (go_big_quiet_step ((go_at_call 101;exact bP _ (HGd.out _))))
     refine wpQuiet_nil ?_;rintro _ ⟨u,rfl⟩;go_wp2_with fail;go_roundw
     case rel=>exact ⟨k+1,by omega,by go_num,HPt.out (by simp [bK]),Below.step hb2 u.h (Nat.le_refl _)⟩
     case measure=>simp [intOf];omega
    ·subst hgl;refine cC (by kernel_rfl) (by kernel_rfl) ?_;repeat (go_big_quiet_step ((go_at_call 101;exact bP _ (HGd.out _))))
     refine wpQuiet_nil ?_;rintro _ ⟨u,rfl⟩;go_wp2_with fail;go_ret;exact ⟨aF (HPf.out (by simp [bK,HGv.out])),Below.step n12 u.h (Nat.le_refl _)⟩
   ·cases gd
    ·
     refine cC (by kernel_rfl) (by kernel_rfl) ?_;repeat (go_big_quiet_step ((go_at_call 101;exact bP _ (HGd.out _))))
     refine wpQuiet_nil ?_;rintro _ ⟨u,rfl⟩;go_wp2_with fail;go_ret;exact ⟨aF (HPf.out (by simp [bK,HGv.out])),Below.step n12 u.h (Nat.le_refl _)⟩
    ·have htg:tg<512:=rP HGv.out;have htg0:0≤tg:=hok.2.1.1;have hd0:0≤(k:Int)/ways:=Int.ediv_nonneg (by omega) (by omega);have hd1:(k:Int)/ways≤1048576:=Int.le_trans (Int.ediv_le_self _ (by omega)) (by omega);by_cases hq:tg%s=(k:Int)/ways
     ·have hq':(tg%s != (k:Int)/ways)=false:=by rw [bne_eq_false_iff_eq];exact hq
      have HQ:Hid (tg%s=(k:Int)/ways):=hq;clear hq;rcases hs with rfl | rfl | rfl | rfl;all_goals
       try rw [Int.emod_one] at hq'
       refine cC (by kernel_rfl) (by kernel_rfl) ?_;repeat (go_big_quiet_step ((go_at_call 101;exact bP _ (HGd.out _))))
       refine wpQuiet_nil ?_;rintro _ ⟨u,rfl⟩;go_wp2_with fail;go_roundw
       case rel=>exact ⟨k+1,by omega,by go_num,HPt.out (by have hz:=HQ.out;first | (simp [bK,HGv.out,hz];done) | (rw [Int.emod_one] at hz;simp [bK,HGv.out,hz])),Below.step hb2 u.h (Nat.le_refl _)⟩
       case measure=>simp [intOf];omega
     ·have hq':(tg%s != (k:Int)/ways)=true:=by rw [bne_iff_ne];exact hq
      have HQ:Hid (¬tg%s=(k:Int)/ways):=hq;clear hq;rcases hs with rfl | rfl | rfl | rfl;all_goals
       try rw [Int.emod_one] at hq'
       refine cC (by kernel_rfl) (by kernel_rfl) ?_;repeat (go_big_quiet_step ((go_at_call 101;exact bP _ (HGd.out _))))
       refine wpQuiet_nil ?_;rintro _ ⟨u,rfl⟩;go_wp2_with fail;go_ret;exact ⟨aF (HPf.out (by have hz:=HQ.out;first | (simp [bK,hz];done) | (rw [Int.emod_one] at hz;simp [bK,hz]))),Below.step n12 u.h (Nat.le_refl _)⟩
  ·have hkn:k=n:=by omega
   subst hkn;have HT:Hid (true=R):=by
    show true=R;rw [←HP.out];exact (eQ _ p es 0 (fun j x hx=>by rw [Nat.zero_add];exact HA.out j x (by have h1:=(List.getElem?_eq_some_iff.1 hx).1;have h2:=HN.out;omega) hx)).symm
   clear c10 c11 c12 n1 d10 d11;go_wp2_with fail;go_ret;exact ⟨aF HT.out,n1r⟩
end Go.Proofs.YthekickjjaleaaaGreat

namespace Go.Proofs.YthekickjjaleaaaGreat
open Go.RowKit
set_option linter.unusedVariables false
set_option maxHeartbeats 1600000 in
theorem qQ (a:Option Addr) (n cap:Nat) (sets ways:Int) (p:Bool) (w:World) (hl:n≤1048576) (hs: -9223372036854775808≤sets∧sets≤9223372036854775807) (hw: -9223372036854775808≤ways∧ways≤9223372036854775807)
 (h:¬((sets=1∨sets=2∨sets=4∨sets=8)∧1≤ways∧ways≤4∧(n:Int)=sets*ways)):
 Calls Tryz.prog 31 #[.agg #[.int .i64 sets,.int .i64 ways,.slice a n cap],.bool p] w fun e w'=>e=.returned (.bool false)∧Below w.heap.size w w':=by
 by_cases h1:sets=1∨sets=2∨sets=4∨sets=8
 ·by_cases h2:ways<1
  ·rcases h1 with rfl | rfl | rfl | rfl;all_goals
    go_enter Tryz.func31,Tryz.ntmps31;go_wp2_with fail;go_ret;exact ⟨rfl,(Below.refl _ _).alloc (Nat.le_refl _) _⟩
  by_cases h3:4<ways
  ·rcases h1 with rfl | rfl | rfl | rfl;all_goals
    go_enter Tryz.func31,Tryz.ntmps31;go_wp2_with fail;go_ret;exact ⟨rfl,(Below.refl _ _).alloc (Nat.le_refl _) _⟩
  rcases h1 with rfl | rfl | rfl | rfl
  ·have h4:((n:Int) != ways)=true:=by rw [bne_iff_ne];omega
   clear h;go_enter Tryz.func31,Tryz.ntmps31;go_wp2_with fail;go_ret;exact ⟨rfl,(Below.refl _ _).alloc (Nat.le_refl _) _⟩
  ·have h4:((n:Int) != 2*ways)=true:=by rw [bne_iff_ne];omega
   clear h;go_enter Tryz.func31,Tryz.ntmps31;go_wp2_with fail;go_ret;exact ⟨rfl,(Below.refl _ _).alloc (Nat.le_refl _) _⟩
  ·have h4:((n:Int) != 4*ways)=true:=by rw [bne_iff_ne];omega
   clear h;go_enter Tryz.func31,Tryz.ntmps31;go_wp2_with fail;go_ret;exact ⟨rfl,(Below.refl _ _).alloc (Nat.le_refl _) _⟩
  ·have h4:((n:Int) != 8*ways)=true:=by rw [bne_iff_ne];omega
   clear h;go_enter Tryz.func31,Tryz.ntmps31;go_wp2_with fail;go_ret;exact ⟨rfl,(Below.refl _ _).alloc (Nat.le_refl _) _⟩
 ·have q1:(sets != 1)=true:=by rw [bne_iff_ne];omega
  have q2:(sets != 2)=true:=by rw [bne_iff_ne];omega
  have q4:(sets != 4)=true:=by rw [bne_iff_ne];omega
  have q8:(sets != 8)=true:=by rw [bne_iff_ne];omega
  clear h h1;go_enter Tryz.func31,Tryz.ntmps31;go_wp2_with fail;go_ret;exact ⟨rfl,(Below.refl _ _).alloc (Nat.le_refl _) _⟩
theorem er (v:Value) (t:TlbM) (p:Bool) (w:World) (h:TlbAt w v t):
 Calls Tryz.prog 31 #[v,.bool p] w fun e w'=>e=.returned (.bool (aI t p))∧Below w.heap.size w w':=by
 obtain ⟨a,cap,rfl,hr,he,hs,hw,hl,hlc,hcm,hnil,hsp⟩:=h;obtain ⟨sets,ways,es⟩:=t;simp only at hr he hs hw hl hlc hnil ⊢;by_cases hsh:(sets=1∨sets=2∨sets=4∨sets=8)∧1≤ways∧ways≤4∧(es.length:Int)=sets*ways
 ·have hv:aI ⟨sets,ways,es⟩ p=ez ⟨sets,ways,es⟩ p 0 es:=by simp only [aI,fF];rw [decide_eq_true hsh,Bool.true_and]
  rw [hv];obtain ⟨h1,h2,h3,h4⟩:=hsh;obtain ⟨b,off,rfl⟩:∃b off,a=some ⟨b,off,none⟩:=by
   rcases hr.2 with h0 | ⟨b,off,rfl,_,_⟩
   ·rw [h0] at h4;rcases h1 with rfl | rfl | rfl | rfl <;> simp at h4 <;> omega
   ·exact ⟨b,off,rfl⟩
  exact rQ sets h1 b off cap ways es es.length p w hr he hl rfl h2 h3 h4
 ·have hv:aI ⟨sets,ways,es⟩ p=false:=by simp only [aI,fF];rw [decide_eq_false hsh,Bool.false_and]
  rw [hv];exact qQ a es.length cap sets ways p w hl hs hw hsh
end Go.Proofs.YthekickjjaleaaaGreat

namespace Go.Proofs.YthekickjjaleaaaGreat
open Go.RowKit
set_option linter.unusedVariables false
attribute [local go_sem ↓] Go.wp_at_zero Go.wp_at_succ
theorem TlbAt.keep {w w':World} {v:Value} {t:TlbM} (h:TlbAt w v t) (hb:Below w.heap.size w w'):TlbAt w' v t:=by
 obtain ⟨a,cap,rfl,hr,r⟩:=h;exact ⟨a,cap,rfl,hr.keep hb,r⟩
def cN (t:TlbM):Bool:=aI t true || aI t false
def fS (x:EntM) (va asid:Int):Bool:=x.valid && (x.tag == ev va x.level) && (x.glob || x.asid == asid)
set_option maxHeartbeats 800000 in
theorem kR (v:Value) (t:TlbM) (w:World) (h:TlbAt w v t):
 Calls Tryz.prog 122 #[v] w fun e w'=>e=.returned (.bool (cN t))∧Below w.heap.size w w':=by
 have HT:Hid (TlbAt w v t):=h;obtain ⟨a,cap,rfl,_⟩:=h;have a1:=eH w #[.int .i64 t.sets,.int .i64 t.ways,.slice a t.es.length cap] 41;unfold cN;obtain ⟨p,hp⟩:∃p,aI t true=p:=⟨_,rfl⟩;obtain ⟨q,hq⟩:∃q,aI t false=q:=⟨_,rfl⟩;rw [hp,hq];have HP:Hid (aI t true=p):=hp;have HQ:Hid (aI t false=q):=hq;clear hp hq;go_enter Tryz.func122,Tryz.ntmps122;go_wp2_with fail;generalize w.alloc (Obj.cells #[.int .i64 t.sets,.int .i64 t.ways,.slice a t.es.length cap] 41)=v1 at a1 ⊢;obtain ⟨l1,c1,n1⟩:=a1;have c10:v1.cell? ⟨w.heap.size,0,none⟩=some (.int .i64 t.sets):=c1 0;have c11:v1.cell? ⟨w.heap.size,1,none⟩=some (.int .i64 t.ways):=c1 1;have c12:v1.cell? ⟨w.heap.size,2,none⟩=some (.slice a t.es.length cap):=c1 2;refine (er _ t true v1 (HT.out.keep n1)).mono ?_;rw [HP.out];rintro e v2 ⟨rfl,n2⟩;have d10:=Below.cell2 n2 c10 l1;have d11:=Below.cell2 n2 c11 l1;have d12:=Below.cell2 n2 c12 l1;have n12:=Below.step n1 n2 (Nat.le_refl _);clear c1 c10 c11 c12 n1 n2;cases p
 ·go_wp2_with fail;refine (er _ t false v2 (HT.out.keep n12)).mono ?_;rw [HQ.out];rintro e v3 ⟨rfl,n3⟩;have n13:=Below.step n12 n3 (Nat.le_refl _);clear d10 d11 d12 n3;go_wp2_with fail;go_ret;exact ⟨aF (by simp),n13⟩
 ·go_wp2_with fail;go_ret;exact ⟨aF (by simp),n12⟩
set_option maxHeartbeats 1600000 in
theorem sX (x:EntM) (va asid:Int) (w:World) (hx:da x) (hlv:x.valid=true→0≤x.level∧x.level≤2) (hv0:0≤va) (hv1:va≤18446744073709551615):
 Calls Tryz.prog 123 #[gx x,.int .u64 va,.int .u64 asid] w fun e w'=>e=.returned (.bool (fS x va asid))∧Below w.heap.size w w':=by
 obtain ⟨v,lv,tg,asd,gl,pt⟩:=x;unfold gx fS;simp only at hlv ⊢;have n1:=(Below.refl w.heap.size w).alloc (Nat.le_refl _) (Obj.cells #[.bool v,.int .i64 lv,.int .u64 tg,.int .u64 asd,.bool gl,.int .u64 pt] 83);cases v
 ·go_enter Tryz.func123,Tryz.ntmps123;go_wp2_with fail;go_quiet (fail);go_wp2_with fail;go_ret;exact ⟨aF (by simp),below_drewN n1 nq⟩
 obtain ⟨hl0,hl2⟩:=hlv rfl;obtain ⟨tv,htv⟩:∃tv,ev va lv=tv:=⟨_,rfl⟩;rw [htv];have HC:Hid (∀w:World,Calls Tryz.prog 133 #[.int .u64 va,.int .i64 lv] w fun e w'=>e=.returned (.int .u64 tv)∧∃n,w'=w.drewN n):=fun w=>by
  have:=oU va lv w hv0 hv1 hl0 hl2;rw [htv] at this;exact this
 clear htv;cases ht:(tg == tv)
 ·go_enter Tryz.func123,Tryz.ntmps123;go_wp2_with fail;go_quiet ((go_at_call 133;exact Calls.quiet_of (HC.out _)));go_wp2_with fail;go_ret;exact ⟨aF (by simp),below_drewN n1 nq⟩
 ·cases gl
  ·go_enter Tryz.func123,Tryz.ntmps123;go_wp2_with fail;go_quiet ((go_at_call 133;exact Calls.quiet_of (HC.out _)));go_wp2_with fail;go_ret;exact ⟨aF (by simp),below_drewN n1 nq⟩
  ·go_enter Tryz.func123,Tryz.ntmps123;go_wp2_with fail;go_quiet ((go_at_call 133;exact Calls.quiet_of (HC.out _)));go_wp2_with fail;go_ret;exact ⟨aF (by simp),below_drewN n1 nq⟩
end Go.Proofs.YthekickjjaleaaaGreat

namespace Go.Proofs.YthekickjjaleaaaGreat
open Go.RowKit
set_option linter.unusedVariables false
attribute [local go_sem ↓] Go.wp_at_zero Go.wp_at_succ
def fm (va asid l:Int) (x:EntM):Bool:=x.level == l && fS x va asid
def de (va asid l:Int):Nat→List EntM→Option (Nat × EntM)
 | _,[]=>none
 | i,e::r=>if fm va asid l e=true then some (i,e) else de va asid l (i+1) r
def fJ (l:Int):Option (Nat × EntM)→Option (Bool × Int × Int × Int)
 | none=>none
 | some (i,e)=>some (true,(i:Int),l,e.pte)
def aY (t:TlbM) (va asid:Int):Bool × Int × Int × Int:=
 if cN t=false then (false,0,0,0)
 else ((fJ 0 (de va asid 0 0 t.es)).or ((fJ 1 (de va asid 1 0 t.es)).or (fJ 2 (de va asid 2 0 t.es)))).getD (false,0,0,0)
theorem iI (va asid l:Int):∀(es:List EntM) (i:Nat),(∀(j:Nat) x,es[j]?=some x→fm va asid l x=false)→de va asid l i es=none
 | [],i,h=>rfl
 | e::r,i,h=>by
  rw [de,if_neg (by rw [h 0 e rfl];simp)];exact iI va asid l r (i+1) (fun j x hx=>h (j+1) x (by simpa using hx))
theorem kc (va asid l:Int):∀(es:List EntM) (i k:Nat) (x:EntM),es[k]?=some x→fm va asid l x=true→(∀j y,j<k→es[j]?=some y→fm va asid l y=false)→de va asid l i es=some (i+k,x)
 | e::r,i,0,x,hx,hh,h=>by
  simp at hx;subst hx;rw [de,if_pos hh];rfl
 | e::r,i,k+1,x,hx,hh,h=>by
  rw [de,if_neg (by rw [h 0 e (by omega) rfl];simp),kc va asid l r (i+1) k x (by simpa using hx) hh (fun j y hj hy=>h (j+1) y (by omega) (by simpa using hy))];congr 2;omega
theorem jH (t:TlbM) (p:Bool):∀(es:List EntM) (i:Nat),ez t p i es=true→∀j x,es[j]?=some x→bK t p (i+j) x=true
 | e::r,i,h,0,x,hx=>by
  simp at hx;subst hx;simp only [ez,Bool.and_eq_true] at h;exact h.1
 | e::r,i,h,j+1,x,hx=>by
  simp only [ez,Bool.and_eq_true] at h;have:=jH t p r (i+1) h.2 j x (by simpa using hx);rw [show i+(j+1)=i+1+j by omega];exact this
theorem mE {t:TlbM} {p:Bool} {i:Nat} {x:EntM} (h:bK t p i x=true) (hv:x.valid=true):0≤x.level∧x.level≤2:=by
 simp only [bK,Bool.or_eq_true,Bool.and_eq_true] at h;rcases h with h | h
 ·rw [hv] at h;simp at h
 ·have:=h.1;simp only [aO,Bool.and_eq_true,decide_eq_true_eq] at this;exact ⟨this.1.1.1.1.1.2,this.1.1.1.1.2⟩
theorem ei {t:TlbM} (h:cN t=true) (j:Nat) (x:EntM) (hx:t.es[j]?=some x) (hv:x.valid=true):0≤x.level∧x.level≤2:=by
 simp only [cN,aI,Bool.or_eq_true,Bool.and_eq_true] at h;rcases h with h | h
 ·exact mE (jH t true t.es 0 h.2 j x hx) hv
 ·exact mE (jH t false t.es 0 h.2 j x hx) hv
theorem tz (t:TlbM) (va asid:Int) (l k:Nat) (x:EntM) (he:cN t=true) (hl:l≤2) (hp:∀l':Nat,l'<l→de va asid l' 0 t.es=none) (hf:de va asid l 0 t.es=some (k,x)):
 aY t va asid=(true,(k:Int),(l:Int),x.pte):=by
 unfold aY;rw [if_neg (by rw [he];simp)];rcases (show l=0∨l=1∨l=2 by omega) with rfl | rfl | rfl
 ·have hf':de va asid 0 0 t.es=some (k,x):=hf;rw [hf'];rfl
 ·have h0:de va asid 0 0 t.es=none:=hp 0 (by omega);have hf':de va asid 1 0 t.es=some (k,x):=hf;rw [h0,hf'];rfl
 ·have h0:de va asid 0 0 t.es=none:=hp 0 (by omega);have h1:de va asid 1 0 t.es=none:=hp 1 (by omega);have hf':de va asid 2 0 t.es=some (k,x):=hf;rw [h0,h1,hf'];rfl
theorem lS (t:TlbM) (va asid:Int) (he:cN t=true) (hp:∀l':Nat,l'<3→de va asid l' 0 t.es=none):aY t va asid=(false,0,0,0):=by
 have h0:de va asid 0 0 t.es=none:=hp 0 (by omega);have h1:de va asid 1 0 t.es=none:=hp 1 (by omega);have h2:de va asid 2 0 t.es=none:=hp 2 (by omega);unfold aY;rw [if_neg (by rw [he];simp),h0,h1,h2];rfl
set_option maxHeartbeats 6400000 in
theorem dY (v:Value) (t:TlbM) (va asid:Int) (w:World) (h:TlbAt w v t) (hv0:0≤va) (hv1:va≤18446744073709551615):
 Calls Tryz.prog 45 #[v,.int .u64 va,.int .u64 asid] w fun e w'=>
  e=.returned (.agg #[.bool (aY t va asid).1,.int .i64 (aY t va asid).2.1,.int .i64 (aY t va asid).2.2.1,.int .u64 (aY t va asid).2.2.2])∧Below w.heap.size w w':=by
 have HT:Hid (TlbAt w v t):=h;obtain ⟨a,cap,rfl,hr,he,hs,hw,hl,hlc,hcm,hnil,hsp⟩:=h;obtain ⟨⟨x1,x2,x3,x4⟩,hX⟩:∃X,aY t va asid=X:=⟨_,rfl⟩;rw [hX];simp only;have HX:Hid (aY t va asid=(x1,x2,x3,x4)):=hX;obtain ⟨eb,heb⟩:∃eb,cN t=eb:=⟨_,rfl⟩;have HEb:Hid (cN t=eb):=heb;obtain ⟨n,hn⟩:∃n,t.es.length=n:=⟨_,rfl⟩;have HN:Hid (t.es.length=n):=hn;rw [hn] at hr hl hlc hnil ⊢;have HR:Hid (RowC w a n 6 (aG t.es)):=hr;have HE:Hid (∀e∈t.es,da e):=he;have n1:=((Below.refl w.heap.size w).alloc (Nat.le_refl _) (Obj.cells #[.int .i64 t.sets,.int .i64 t.ways,.slice a n cap] 41)).alloc (by simp) (Obj.cells #[.bool false,.int .i64 0,.int .i64 0,.int .u64 0] 67);have H1:Hid (((w.alloc (Obj.cells #[.int .i64 t.sets,.int .i64 t.ways,.slice a n cap] 41)).alloc (Obj.cells #[.bool false,.int .i64 0,.int .i64 0,.int .u64 0] 67)).heap[w.heap.size+1]?=some (.cells #[.bool false,.int .i64 0,.int .i64 0,.int .u64 0] 67 (0,0))):=by
  have:=heap_alloc_new (w.alloc (Obj.cells #[.int .i64 t.sets,.int .i64 t.ways,.slice a n cap] 41)) (Obj.cells #[.bool false,.int .i64 0,.int .i64 0,.int .u64 0] 67);simp only [World.size_alloc] at this;exact this
 have H2:Hid (((w.alloc (Obj.cells #[.int .i64 t.sets,.int .i64 t.ways,.slice a n cap] 41)).alloc (Obj.cells #[.bool false,.int .i64 0,.int .i64 0,.int .u64 0] 67)).cell? ⟨w.heap.size,2,none⟩=some (.slice a n cap)):=by
  show _=_;simp
 have l1:w.heap.size+1<((w.alloc (Obj.cells #[.int .i64 t.sets,.int .i64 t.ways,.slice a n cap] 41)).alloc (Obj.cells #[.bool false,.int .i64 0,.int .i64 0,.int .u64 0] 67)).heap.size:=by simp
 clear hX heb hn hr he hs hw hnil hsp;go_enter Tryz.func45,Tryz.ntmps45;go_wp2_with fail;generalize (w.alloc (Obj.cells #[.int .i64 t.sets,.int .i64 t.ways,.slice a n cap] 41)).alloc (Obj.cells #[.bool false,.int .i64 0,.int .i64 0,.int .u64 0] 67)=v1 at n1 H1 H2 l1 ⊢;have HTn:Hid (TlbAt w (.agg #[.int .i64 t.sets,.int .i64 t.ways,.slice a n cap]) t):=by have:=HT.out;rw [HN.out] at this;exact this
 refine (kR _ t v1 (HTn.out.keep n1)).mono ?_;rw [HEb.out];rintro e v2 ⟨rfl,n2⟩;have n12:=Below.step n1 n2 (Nat.le_refl _);have K1:Hid (v2.heap[w.heap.size+1]?=some (.cells #[.bool false,.int .i64 0,.int .i64 0,.int .u64 0] 67 (0,0))):=ab H1.out n2 l1;have K2:v2.cell? ⟨w.heap.size,2,none⟩=some (.slice a n cap):=Below.cell2 n2 H2.out (by omega);have l2:w.heap.size+1<v2.heap.size:=Nat.lt_of_lt_of_le l1 n2.size;clear n1 n2 H1 H2 l1;cases eb
 ·obtain ⟨⟨d0,d1,d2,d3⟩,e0,e1,e2,e3⟩:=ax K1.out;have hz:(x1,x2,x3,x4)=(false,0,0,0):=by rw [←HX.out];unfold aY;rw [if_pos HEb.out]
  cases hz;go_wp2_with fail;exact bodyPost_ret (v:=.agg #[.bool false,.int .i64 0,.int .i64 0,.int .u64 0]) (by simp [results,Tryz.results45,go_sem,d0,d1,d2,d3]) rfl ⟨rfl,lY n12 (by omega) _ _ _ _⟩
 ·go_wp2_with fail;go_loopw [7] (fun lev wr=>∃l:Nat,l≤3∧lev=.int .i64 l∧(∀l':Nat,l'<l→de va asid l' 0 t.es=none)∧Below v2.heap.size v2 wr) (fun lev _=>3-(intOf lev).toNat)
  case atStart=>exact ⟨0,by omega,rfl,fun l' h=>absurd h (by omega),Below.refl _ _⟩
  case round=>
   obtain ⟨l,hl3,rfl,hprev,hb⟩:=hrel;have HPv:Hid (∀l':Nat,l'<l→de va asid l' 0 t.es=none):=hprev;clear hprev;by_cases hlt:l≤2
   ·have hlt':decide ((l:Int)≤2)=true:=by simp;omega
    go_wp2_with fail;go_loopw [8] (fun i wq=>∃k:Nat,k≤n∧i=.int .i64 k∧(∀j x,j<k→t.es[j]?=some x→fm va asid l x=false)∧Below v2.heap.size v2 wq) (fun i _=>n-(intOf i).toNat)
    case atStart=>exact ⟨0,Nat.zero_le _,rfl,fun j x hj=>absurd hj (by omega),hb⟩
    case round=>
     obtain ⟨k,hk,rfl,hall,hbq⟩:=hrel;have HA:Hid (∀j x,j<k→t.es[j]?=some x→fm va asid l x=false):=hall;clear hall hb;have d12:=Below.cell2 hbq K2 (by omega);have l3:w.heap.size+1<wr.heap.size:=Nat.lt_of_lt_of_le l2 hbq.size;have n1q:=Below.step n12 hbq (Nat.le_refl _);by_cases hkn:k<n
     ·have hx:∃x:EntM,t.es[k]?=some x:=⟨_,List.getElem?_eq_getElem (by have:=HN.out;omega)⟩;obtain ⟨⟨v,lv,tg,asd,gl,pt⟩,hx⟩:=hx;have hok:da ⟨v,lv,tg,asd,gl,pt⟩:=HE.out _ (List.mem_of_getElem? hx);have hlv:=ei HEb.out k _ hx;obtain ⟨b,off,rfl⟩:∃b off,a=some ⟨b,off,none⟩:=by
       rcases HR.out.2 with h0 | ⟨b,off,rfl,_,_⟩
       ·omega
       ·exact ⟨b,off,rfl⟩
      have HRr:=RowC.keep HR.out n1q;have g0:wr.cell? ⟨b,off+k*6,none⟩=some (.bool v):=dG HRr HN.out k _ hx 0 _ (by omega) rfl;have g1:wr.cell? ⟨b,off+k*6+1,none⟩=some (.int .i64 lv):=dG HRr HN.out k _ hx 1 _ (by omega) rfl;have g2:wr.cell? ⟨b,off+k*6+2,none⟩=some (.int .u64 tg):=dG HRr HN.out k _ hx 2 _ (by omega) rfl;have g3:wr.cell? ⟨b,off+k*6+3,none⟩=some (.int .u64 asd):=dG HRr HN.out k _ hx 3 _ (by omega) rfl;have g4:wr.cell? ⟨b,off+k*6+4,none⟩=some (.bool gl):=dG HRr HN.out k _ hx 4 _ (by omega) rfl;have g5:wr.cell? ⟨b,off+k*6+5,none⟩=some (.int .u64 pt):=dG HRr HN.out k _ hx 5 _ (by omega) rfl;have HXk:Hid (t.es[k]?=some ⟨v,lv,tg,asd,gl,pt⟩):=hx;have HLv:Hid (v=true→0≤lv∧lv≤2):=hlv;have HPt:Hid (fm va asid l ⟨v,lv,tg,asd,gl,pt⟩=false→∀j x,j<k+1→t.es[j]?=some x→fm va asid l x=false):=fun h j x hj hx'=>by
       by_cases e:j=k
       ·subst e;rw [hx] at hx';cases hx';exact h
       ·exact HA.out j x (by omega) hx'
      clear hx HRr hlv;obtain ⟨fv,hfv⟩:∃fv,fS ⟨v,lv,tg,asd,gl,pt⟩ va asid=fv:=⟨_,rfl⟩;have HF:Hid (fS ⟨v,lv,tg,asd,gl,pt⟩ va asid=fv):=hfv;clear hfv;cases hq:(lv == (l:Int))
      ·go_wp2_with fail;go_roundw
       case rel=>exact ⟨k+1,by omega,by go_num,HPt.out (by simp [fm,hq]),hbq⟩
       case measure=>simp [intOf];omega
      ·have hq':lv=(l:Int):=by simpa using hq
       subst hq';clear hq;go_wp2_with fail;refine (sX ⟨v,(l:Int),tg,asd,gl,pt⟩ va asid wr hok HLv.out hv0 hv1).mono ?_;rw [HF.out];rintro e v5 ⟨rfl,n5⟩;have hb5:=Below.step hbq n5 (Nat.le_refl _);have n15:=Below.step n1q n5 (Nat.le_refl _);have p5:v5.cell? ⟨b,off+k*6+5,none⟩=some (.int .u64 pt):=Below.cell2 n5 g5 (by
        rcases HR.out.2 with h0 | ⟨b',off',e,hlt',_⟩
        ·omega
        ·cases e;exact Nat.lt_of_lt_of_le hlt' n1q.size)
       have p12:=Below.cell2 n5 d12 (by omega);obtain ⟨⟨d0,d1,d2,d3⟩,e0,e1,e2,e3⟩:=ax (ab K1.out hb5 l2);clear g0 g1 g2 g3 g4 g5 d12 n5;cases fv
       ·clear d0 d1 d2 d3 e0 e1 e2 e3 p5;go_wp2_with fail;go_roundw
        case rel=>exact ⟨k+1,by omega,by go_num,HPt.out (by simp [fm,HF.out]),hb5⟩
        case measure=>simp [intOf];omega
       ·have hh:fm va asid l ⟨v,(l:Int),tg,asd,gl,pt⟩=true:=by simp [fm,HF.out]
        have hfind:=kc va asid l t.es 0 k _ HXk.out hh HA.out;have HV:Hid ((x1,x2,x3,x4)=(true,(k:Int),(l:Int),pt)):=by
         show _=_;rw [←HX.out];exact tz t va asid l k _ HEb.out hlt HPv.out (by rw [hfind,Nat.zero_add])
        clear hh hfind;have hV:=HV.out;cases hV;go_wp2_with fail;exact bodyPost_ret (v:=.agg #[.bool true,.int .i64 k,.int .i64 l,.int .u64 x4]) (by simp [results,Tryz.results45,go_sem,d0,d1,d2,d3]) rfl ⟨rfl,lY n15 (by omega) _ _ _ _⟩
     ·have hkn':k=n:=by omega
      have HF:Hid (de va asid l 0 t.es=none):=iI va asid l t.es 0 (fun j x hx=>HA.out j x (by have h1:=(List.getElem?_eq_some_iff.1 hx).1;have h2:=HN.out;omega) hx);go_wp2_with fail;go_roundw
      case rel=>exact ⟨l+1,by omega,by go_num,fun l' h=>by
       by_cases e:l'=l
       ·subst e;exact HF.out
       ·exact HPv.out l' (by omega),hbq⟩
      case measure=>simp [intOf];omega
   ·obtain ⟨⟨d0,d1,d2,d3⟩,e0,e1,e2,e3⟩:=ax (ab K1.out hb l2);have n14:=Below.step n12 hb (Nat.le_refl _);have hz:(x1,x2,x3,x4)=(false,0,0,0):=by
     rw [←HX.out];exact lS t va asid HEb.out (fun l' h=>HPv.out l' (by omega))
    cases hz;clear K2;go_wp2_with fail;exact bodyPost_ret (v:=.agg #[.bool false,.int .i64 0,.int .i64 0,.int .u64 0]) (by simp [results,Tryz.results45,go_sem,d0,d1,d2,d3]) rfl ⟨rfl,lY n14 (by omega) _ _ _ _⟩
end Go.Proofs.YthekickjjaleaaaGreat

namespace Go.Proofs.YthekickjjaleaaaGreat
set_option linter.unusedVariables false
structure FenceM where
 hasVa:Bool
 va:Int
 hasAsid:Bool
 asid:Int
def fd (f:FenceM) (level tag asid:Int) (glob:Bool):Bool:=
 !(f.hasVa && (!cU f.va || tag != ev f.va level)) && (!f.hasAsid || (!glob && asid == f.asid))
def bW (f:FenceM) (e:EntM):EntM:=if (e.valid && fd f e.level e.tag e.asid e.glob)=true then bQ else e
def jz (es:List EntM) (first:Nat):Nat→Nat→Option Nat
 | _,0=>none
 | w,left+1=>if (es[first+w]?.getD bQ).valid=false then some w else jz es first (w+1) left
end Go.Proofs.YthekickjjaleaaaGreat

namespace Go.Proofs.YthekickjjaleaaaGreat
set_option linter.unusedVariables false
structure KM where
 i:TlbM
 d:TlbM
 p:TlbM
def sk:TlbM:=⟨0,0,[]⟩
def k0M:KM:=⟨sk,sk,sk⟩
def bs (k:KM):Bool:=aI k.i false && aI k.d false && aI k.p true
def eF (level va satp pte:Int):EntM:=⟨true,level,ev va level,aU satp,bS pte 32,pte⟩
def dg (t:TlbM) (f:FenceM):TlbM:=if cN t=true then ⟨t.sets,t.ways,t.es.map (bW f)⟩ else t
def iT (t:TlbM) (e:EntM):Bool:=(aI t true && aO e true) || (aI t false && aO e false)
def ek (t:TlbM) (e:EntM):Nat:=(e.tag%t.sets*t.ways).toNat
def gY (t:TlbM) (e:EntM) (pick:Int):Nat:=(jz t.es (ek t e) 0 t.ways.toNat).getD (pick%t.ways).toNat
def cE (t:TlbM) (e:EntM) (pick:Int):TlbM:=
 if iT t e=true∧0≤pick∧pick≤255 then ⟨t.sets,t.ways,t.es.set (ek t e+gY t e pick) e⟩ else t
def dU (va satp pick:Int):List eh→TlbM→TlbM
 | [],p=>p
 | r::rs,p=>dU va satp pick rs (if bC r.2.2 r.1=1 then cE p (eF r.1 va satp r.2.2) pick else p)
def ck (zs:List Int) (satp va:Int) (up:Bool × Int × Int × Int):Int × Int × Int × List eh:=
 if up.1=true then cH zs va (up.2.2.1-1).toNat (dy up.2.2.2) else cf zs satp va
def vu (k:KM) (kind:Int) (t:TlbM):KM:=if kind=0 then ⟨t,k.d,k.p⟩ else ⟨k.i,t,k.p⟩
def gL (k:KM) (kind:Int):TlbM:=if kind=0 then k.i else k.d
def aW (zs:List Int) (mode:Int) (sum mxr:Bool) (satp:Int) (k:KM) (kind va pick:Int):(Int × Int) × KM:=
 if bs k=false∨kind<0∨2<kind∨mode<0∨2<mode∨pick<0∨255<pick then ((63,0),k0M)
 else if onM mode satp=false then ((0,va),k)
 else if cU va=false then ((gV kind,0),k)
 else if (aY (gL k kind) va (aU satp)).1=true then (fU (aY (gL k kind) va (aU satp)).2.2.2 (aY (gL k kind) va (aU satp)).2.2.1 mode sum mxr kind va,k)
 else
  let r:=ck zs satp va (aY k.p va (aU satp))
  let a:=el r mode sum mxr kind va
  let k':KM:=⟨k.i,k.d,dU va satp pick r.2.2.2 k.p⟩
  (a,if a.1=0 then vu k' kind (cE (gL k kind) (eF r.2.1 va satp r.2.2.1) pick) else k')
theorem fu {t:TlbM} {p:Bool} (h:aI t p=true):(t.sets=1∨t.sets=2∨t.sets=4∨t.sets=8)∧1≤t.ways∧t.ways≤4∧(t.es.length:Int)=t.sets*t.ways:=by
 simp only [aI,Bool.and_eq_true,fF,decide_eq_true_eq] at h;exact h.1
theorem jA {t:TlbM} {p:Bool} (h:aI t p=true) (j:Nat) (x:EntM) (hx:t.es[j]?=some x):bK t p j x=true:=by
 simp only [aI,Bool.and_eq_true] at h;have:=jH t p t.es 0 h.2 j x hx;simpa using this
theorem pn {t:TlbM} {p:Bool} (h:fF t=true) (hp:∀(j:Nat) x,t.es[j]?=some x→bK t p j x=true):aI t p=true:=by
 simp only [aI,Bool.and_eq_true];exact ⟨h,eQ t p t.es 0 (fun j x hx=>by simpa using hp j x hx)⟩
theorem eR {t:TlbM} {p:Bool} (h:aI t p=true):cN t=true:=by
 cases p <;> simp [cN,h]
theorem sl (es:List EntM) (first:Nat):∀(left w r:Nat),jz es first w left=some r→w≤r∧r<w+left
 | 0,w,r,h=>by simp [jz] at h
 | left+1,w,r,h=>by
  rw [jz] at h;split at h
  ·cases h;omega
  ·have:=sl es first left (w+1) r h
   omega
theorem tZ (t:TlbM) (e:EntM) (pick:Int) (hw:1≤t.ways) (hw':t.ways≤4):(gY t e pick:Int)<t.ways:=by
 unfold gY;cases h:jz t.es (ek t e) 0 t.ways.toNat with
 | none=>
  simp only [Option.getD_none];have h1:0≤pick%t.ways:=Int.emod_nonneg _ (by omega);have h2:pick%t.ways<t.ways:=Int.emod_lt_of_pos _ (by omega);omega
 | some r=>
  simp only [Option.getD_some];have:=sl _ _ _ _ _ h;omega
theorem po {t:TlbM} {e:EntM} (ht:0≤e.tag) (hs:t.sets=1∨t.sets=2∨t.sets=4∨t.sets=8) (hw:1≤t.ways):(ek t e:Int)=e.tag%t.sets*t.ways:=by
 unfold ek;have:0≤e.tag%t.sets:=Int.emod_nonneg _ (by omega);have:=Int.mul_nonneg this (by omega:0≤t.ways);omega
theorem wY {t:TlbM} {p:Bool} {e:EntM} {pick:Int} (hv:aI t p=true) (ht:0≤e.tag):ek t e+gY t e pick<t.es.length:=by
 obtain ⟨hs,hw,hw',hl⟩:=fu hv;have h1:=po (e:=e) ht hs hw;have h2:=tZ t e pick hw hw';have h3:e.tag%t.sets<t.sets:=Int.emod_lt_of_pos _ (by omega);have h4:0≤e.tag%t.sets:=Int.emod_nonneg _ (by omega);have h5:(e.tag%t.sets+1)*t.ways≤t.sets*t.ways:=Int.mul_le_mul_of_nonneg_right (by omega) (by omega);rw [Int.add_mul] at h5;omega
theorem wF {t:TlbM} {p:Bool} {e:EntM} {pick:Int} (hv:aI t p=true) (ht:0≤e.tag):((ek t e+gY t e pick:Nat):Int)/t.ways=e.tag%t.sets:=by
 obtain ⟨hs,hw,hw',hl⟩:=fu hv;have h1:=po (e:=e) ht hs hw;have h2:=tZ t e pick hw hw';rw [show ((ek t e+gY t e pick:Nat):Int)=(gY t e pick:Int)+(e.tag%t.sets)*t.ways by omega,Int.add_mul_ediv_right _ _ (by omega)];rw [Int.ediv_eq_zero_of_lt (by omega) h2];omega
theorem uE {e:EntM} {p:Bool} (h:aO e p=true):bC e.pte e.level=gt p:=by
 simp only [aO,Bool.and_eq_true,beq_iff_eq] at h;exact h.2
theorem iU (t:TlbM) (e:EntM) (pick:Int) (p:Bool) (hv:aI t p=true) (hg:aO e p=true) (ht:0≤e.tag):aI (cE t e pick) p=true:=by
 unfold cE;split
 ·have hs:=fu hv;refine pn ?_ ?_
  ·simp only [fF,decide_eq_true_eq,List.length_set];exact hs
  ·intro j x hx;simp only [List.getElem?_set] at hx;split at hx
   ·rename_i hj;split at hx
    ·cases hx;subst hj;simp only [bK,Bool.or_eq_true,Bool.and_eq_true,beq_iff_eq];exact .inr ⟨hg,(wF (pick:=pick) hv ht).symm⟩
    ·cases hx
   ·exact jA hv j x hx
 ·exact hv
theorem jB (t:TlbM) (f:FenceM) (p:Bool) (hv:aI t p=true):aI (dg t f) p=true:=by
 unfold dg;rw [if_pos (eR hv)];have hs:=fu hv;refine pn ?_ ?_
 ·simp only [fF,decide_eq_true_eq,List.length_map];exact hs
 ·intro j x hx;simp only [List.getElem?_map,Option.map_eq_some_iff] at hx;obtain ⟨y,hy,rfl⟩:=hx;have:=jA hv j y hy;unfold bW;split
  ·simp [bK,bQ]
  ·exact this
theorem vw (t:TlbM) (va asid:Int) (h:∀x∈t.es,fS x va asid=false):aY t va asid=(false,0,0,0):=by
 by_cases he:cN t=true
 ·refine lS t va asid he (fun l hl=>iI va asid l t.es 0 (fun j x hx=>?_));simp [fm,h x (List.mem_of_getElem? hx)]
 ·unfold aY;rw [if_pos (by simpa using he)]
end Go.Proofs.YthekickjjaleaaaGreat
