import Derived.Test.YtkenjknmfhoppaaGreatSk29
import Derived.Test.YtkenjknmfhoppaaGreatSk16
namespace Go.Proofs.YtkenjknmfhoppaaGreat
open Go.RowKit
set_option linter.unusedVariables false
set_option maxHeartbeats 6400000
set_option maxRecDepth 20000
section
attribute [local go_sem ↓] Go.wp_at_zero Go.wp_at_succ
theorem F9 (w:World) (g i:Nat) (x y z u v t:Value):w.grownBy ((((((w.setCell (AD g i) x).setCell ⟨g,i+1,none⟩ y).setCell ⟨g,i+2,none⟩ z).setCell ⟨g,i+3,none⟩ u).setCell ⟨g,i+4,none⟩ v).setCell ⟨g,i+5,none⟩ t) (some g):=
 aq (aq (aq (aq (aq (aq (aw w (some g)) _ _) _ _) _ _) _ _) _ _) _ _
theorem Ga (w:World) (g i:Nat) (x y z u v t:Value):w.grownBy ((((((w.setCell (AD g i) x).setCell ⟨g,i+1,none⟩ y).setCell ⟨g,i+2,none⟩ z).setCell ⟨g,i+3,none⟩ u).setCell ⟨g,i+4,none⟩ v).setCell ⟨g,i+5,none⟩ t) (some g):=
 aq (aq (aq (aq (aq (aq (aw w (some g)) _ _) _ _) _ _) _ _) _ _) _ _
def qc (z0:Nat) (z1:Nat):Prop:=∀(b o g n base:Nat) (t:TlbM) (e:EntM) (pick:Int) (w:World) (hn:t.es.length=n) (hn1:n<=1048576) (hs4:t.sets=1∨t.sets=2∨t.sets=4∨t.sets=8) (hw1:1<=t.ways) (hw4:t.ways<=4) (hnw:(n:Int)=t.sets*t.ways) (hbl:b<w.heap.size) (hbg:b≠g)
 (c0:w.cell? (AD b o)=some (VI t.sets)) (c1:w.cell? ⟨b,o+1,none⟩=some (VI t.ways)) (c2:w.cell? ⟨b,o+2,none⟩=some (SL g n n)) (ho:w.ownsRow base z1 6 (SL g n n) n (aI t.es)) (ht0:0<=e.tag) (ht1:e.tag<=18446744073709551615) (hp0:0<=pick) (hp1:pick<=255),Calls Tryz.prog z0 #[PT b o,dy e,VI pick] w fun x w'=>x=.returned (.tuple #[])∧w'.ownsRow base z1 6 (SL g n n) n (aI (t.es.set (fA t e+jW t e pick) e))∧w.grownBy w' (some g)
theorem rk:qc 239 246∧qc 238 251:=by
 refine ⟨?_,?_⟩;have mL:=trivial
 rotate_left
 have mP:=trivial
 rotate_left
 all_goals
  intro b o g n base t e pick w hn hn1 hs4 hw1 hw4 hnw hbl hbg c0 c1 c2 ho ht0 ht1 hp0 hp1;obtain ⟨sets,ways,es⟩:=t;obtain ⟨vv,lv,tg,asd,gl,pt⟩:=e;simp only at *;first
   | (replace mL:=mL;have HO:Hid (w.ownsRow base 246 6 (SL g n n) n (aI es)):=ho)
   | (replace mP:=mP;have HO:Hid (w.ownsRow base 251 6 (SL g n n) n (aI es)):=ho)
  have HN:=hid hn;have hg:=(bI ho).2.2;simp only at hg;clear ho hn;obtain ⟨sx,hsx⟩:∃sx,tg%sets=sx:=⟨_,rfl⟩;have hsb:0<=sx∧sx<sets:=by rw [<-hsx];exact ⟨Int.emod_nonneg _ (by omega),Int.emod_lt_of_pos _ (by omega)⟩
  obtain ⟨f,hf⟩:∃f:Nat,(f:Int)=sx*ways:=⟨(sx*ways).toNat,Int.toNat_of_nonneg (Int.mul_nonneg hsb.1 (by omega))⟩;have hfn:(f:Int)+ways<=n:=by
   rw [hnw,hf];have:(sx+1)*ways<=sets*ways:=Int.mul_le_mul_of_nonneg_right (by omega) (by omega);rw [Int.add_mul,Int.one_mul] at this;exact this
  have HFi:Hid (fA ⟨sets,ways,es⟩ ⟨vv,lv,tg,asd,gl,pt⟩=f):=by
   show _=_;unfold fA;simp only;rw [hsx,<-hf];simp
  have HWm:=hid hf.symm;obtain ⟨P,hP⟩:∃P,jW ⟨sets,ways,es⟩ ⟨vv,lv,tg,asd,gl,pt⟩ pick=P:=⟨_,rfl⟩;have HW:=hid hP;rw [HFi.out,hP];clear hP hnw;unfold dy;simp only;first
   | (replace mL:=mL;have n1:=(Below.refl w.heap.size w).alloc nle (Obj.cells #[VI lv,VU tg,VU asd,.bool gl,.bool vv,VU pt] 246))
   | (replace mP:=mP;have n1:=(Below.refl w.heap.size w).alloc nle (Obj.cells #[VI lv,VU tg,VU asd,.bool gl,.bool vv,VU pt] 251))
  first
   | (replace mL:=mL;have H1:Hid ((w.alloc (Obj.cells #[VI lv,VU tg,VU asd,.bool gl,.bool vv,VU pt] 246)).heap[w.heap.size]?=some (.cells #[VI lv,VU tg,VU asd,.bool gl,.bool vv,VU pt] 246 (0,0))):=er w _)
   | (replace mP:=mP;have H1:Hid ((w.alloc (Obj.cells #[VI lv,VU tg,VU asd,.bool gl,.bool vv,VU pt] 251)).heap[w.heap.size]?=some (.cells #[VI lv,VU tg,VU asd,.bool gl,.bool vv,VU pt] 251 (0,0))):=er w _)
  first
   | (replace mL:=mL;have l1:(w.alloc (Obj.cells #[VI lv,VU tg,VU asd,.bool gl,.bool vv,VU pt] 246)).heap.size=w.heap.size+1:=by simp)
   | (replace mP:=mP;have l1:(w.alloc (Obj.cells #[VI lv,VU tg,VU asd,.bool gl,.bool vv,VU pt] 251)).heap.size=w.heap.size+1:=by simp)
  first
   | (replace mL:=mL;go_enter Tryz.func239,Tryz.ntmps239)
   | (replace mP:=mP;go_enter Tryz.func238,Tryz.ntmps238)
  go_wp2_with fail;first
   | (replace mL:=mL;generalize w.alloc (Obj.cells #[VI lv,VU tg,VU asd,.bool gl,.bool vv,VU pt] 246)=v1 at n1 H1 l1 |-)
   | (replace mP:=mP;generalize w.alloc (Obj.cells #[VI lv,VU tg,VU asd,.bool gl,.bool vv,VU pt] 251)=v1 at n1 H1 l1 |-)
  have r0:=Below.cell2 n1 c0 hbl;have r1:=Below.cell2 n1 c1 hbl;obtain ⟨⟨x0,x1,x2,x3,x4,x5⟩,_⟩:=iY H1.out;first
   | (replace mL:=mL;have HSt:Hid (∀q,Calls Tryz.prog 137 #[PT b o,VU tg] (v1.drewN q) fun e w'=>e=.returned (VI sx)∧w'=v1.drewN q):=fun q=>by
        have:=qw b o sets tg (v1.drewN q) hs4 r0 ht0 ht1
        rw [hsx] at this
        exact this)
   | (replace mP:=mP;have HSt:Hid (∀q,Calls Tryz.prog 139 #[PT b o,VU tg] (v1.drewN q) fun e w'=>e=.returned (VI sx)∧w'=v1.drewN q):=fun q=>by
        have:=qx b o sets tg (v1.drewN q) hs4 r0 ht0 ht1
        rw [hsx] at this
        exact this)
  clear hsx hf;go_cut [6] (fun s6 wx=>s6=VI f∧∃q,wx=v1.drewN q)
  case first=>
   first
    | (replace mL:=mL;go_quiet ((go_at_call 137;exact Calls.quiet_of_same (HSt.out _))))
    | (replace mP:=mP;go_quiet ((go_at_call 139;exact Calls.quiet_of_same (HSt.out _))))
   go_wp2;go_meet;exact ⟨by rw [HWm.out];(try (rw [show wrap64 (f:Int)=f from by unfold wrap64;omega])),nq,rfl⟩
  case rest=>
   obtain ⟨rfl,q,rfl⟩:=hcut;have n2:=below_drewN n1 q;first
    | (replace mL:=mL;have H2:Hid ((v1.drewN q).heap[w.heap.size]?=some (.cells #[VI lv,VU tg,VU asd,.bool gl,.bool vv,VU pt] 246 (0,0))):=H1)
    | (replace mP:=mP;have H2:Hid ((v1.drewN q).heap[w.heap.size]?=some (.cells #[VI lv,VU tg,VU asd,.bool gl,.bool vv,VU pt] 251 (0,0))):=H1)
   have l2:=l1;generalize v1.drewN q=v2 at n2 H2 l2 |-;first
    | (replace mL:=mL;have O2:Hid (v2.ownsRow base 246 6 (SL g n n) n (aI es)):=aj HO.out n2)
    | (replace mP:=mP;have O2:Hid (v2.ownsRow base 251 6 (SL g n n) n (aI es)):=aj HO.out n2)
   clear r0 r1 x0 x1 x2 x3 x4 x5 HSt H1 n1 l1 HWm;have r1:=Below.cell2 n2 c1 hbl;have r2:=Below.cell2 n2 c2 hbl;obtain ⟨⟨x0,x1,x2,x3,x4,x5⟩,_⟩:=iY H2.out;have hll:(aI es).length=n*6:=by rw [eN,HN.out]
   have hgw:g≠w.heap.size:=by omega
   have hwg:w.heap.size≠g:=by omega
   go_wp2
   go_loop [7] (fun i=>∃q:Nat,f<=q∧(q:Int)<=f+ways∧i=VI q∧Hid (∀q':Nat,f<=q'->q'<q->(es[q']?.getD cH).valid=true)) (fun i=>f+4-(intOf i).toNat)
   case atStart=>exact ⟨f,nle,by omega,rfl,fun q' h h'=>absurd h' (by omega)⟩
   case round=>
    obtain ⟨q,hq1,hq2,rfl,HQ⟩:=hrel;by_cases hqt:(q:Int)<f+ways
    ·have hqn:q<n:=by omega
     obtain ⟨⟨wv,wl,wt,wa,wg,wp⟩,hx⟩:∃x,es[q]?=some x:=⟨_,geg (by rw [HN.out];exact hqn)⟩;have HXq:=hid hx;have g4:=qy O2.out HN.out q _ hx 4 _ (by omega) rfl;clear hx;cases wv
     ·have hP:P=q-f:=by
       rw [<-HW.out];unfold jW;simp only;rw [HFi.out,oQ es f ways.toNat 0 (q-f) (by omega) (fun j hj=>by rw [Nat.zero_add];exact HQ.out (f+j) (by omega) (by omega)) (by rw [Nat.zero_add,show f+(q-f)=q by omega,HXq.out];rfl)];simp
      subst hP;go_wp2_with fail;have q0:=aE O2.out (q*6) _ (geg (by omega));have q1:=aE O2.out (q*6+1) _ (geg (by omega));have q2:=aE O2.out (q*6+2) _ (geg (by omega));have q3:=aE O2.out (q*6+3) _ (geg (by omega));have q4z:=aE O2.out (q*6+4) _ (geg (by omega));have q5:=aE O2.out (q*6+5) _ (geg (by omega));generalize (aI es)[q*6]'_=y0 at q0;generalize (aI es)[q*6+1]'_=y1 at q1;generalize (aI es)[q*6+2]'_=y2 at q2;generalize (aI es)[q*6+3]'_=y3 at q3;generalize (aI es)[q*6+4]'_=y4 at q4z;generalize (aI es)[q*6+5]'_=y5 at q5;have s0:=aQ O2.out (q*6);have s1:=aQ O2.out (q*6+1);have s2:=aQ O2.out (q*6+2);have s3:=aQ O2.out (q*6+3);have s4:=aQ O2.out (q*6+4);have s5:=aQ O2.out (q*6+5);go_still_tail 7,(by kernel_rfl);go_wp2_with fail;first
       | (replace mL:=mL;refine bodyPost_ret (v:=.tuple #[]) (by simp [results,Tryz.results239,go_sem]) rfl ⟨rfl,?_,?_⟩)
       | (replace mP:=mP;refine bodyPost_ret (v:=.tuple #[]) (by simp [results,Tryz.results238,go_sem]) rfl ⟨rfl,?_,?_⟩)
      ·rw [show f+(q-f)=q by omega,iG es q _ (by rw [HN.out];exact hqn)];exact ky (aF (aF (aF (aF (aF (aF O2.out _ _) _ _) _ _) _ _) _ _) _ _)
      ·first
        | (replace mL:=mL;exact dY (uC n2) (dY (F9 v2 g (q*6) _ _ _ _ _ _) (rJ _ _)))
        | (replace mP:=mP;exact dY (uC n2) (dY (Ga v2 g (q*6) _ _ _ _ _ _) (rJ _ _)))
     ·go_wp2
      go_round
      case rel=>exact ⟨q+1,by omega,by omega,by go_num,fun q' h1 h2=>by
       by_cases e:q'=q
       ·subst e;rw [HXq.out];rfl
       ·exact HQ.out q' h1 (by omega)⟩
      case measure=>simp [intOf];omega
    ·have hP:P=(pick%ways).toNat:=by
      rw [<-HW.out];unfold jW;simp only;rw [HFi.out,oT es f ways.toNat 0 (fun j hj=>by rw [Nat.zero_add];exact HQ.out (f+j) (by omega) (by omega))];rfl
     have hpm:0<=pick%ways∧pick%ways<ways:=⟨Int.emod_nonneg _ (by omega),Int.emod_lt_of_pos _ (by omega)⟩;obtain ⟨r,hr⟩:∃r:Nat,(r:Int)=pick%ways:=⟨(pick%ways).toNat,Int.toNat_of_nonneg hpm.1⟩;have hPr:P=r:=by rw [hP,<-hr];simp
     subst hPr;clear hP hpm;have hrm:=hr.symm;have hrb:(f:Int)+P<n:=by
      have:pick%ways<ways:=Int.emod_lt_of_pos _ (by omega);omega
     have hw0:¬(ways=0):=by omega
     have htm:pick.tmod ways=(P:Int):=by rw [Int.tmod_eq_emod_of_nonneg hp0];exact hr.symm
     clear hr hrm;obtain ⟨d,hd⟩:∃d:Nat,f+P=d:=⟨_,rfl⟩;have hdn:d<n:=by omega
     have HD:=hid hd;have hfp:(f:Int)+(P:Int)=(d:Int):=by omega
     clear hd;have hwd:IntKind.i64.wrap (d:Int)=(d:Int):=(IntKind.wrap_i64 _).trans (by omega);go_wp2_with fail;have q0:=aE O2.out (d*6) _ (geg (by omega));have q1:=aE O2.out (d*6+1) _ (geg (by omega));have q2:=aE O2.out (d*6+2) _ (geg (by omega));have q3:=aE O2.out (d*6+3) _ (geg (by omega));have q4:=aE O2.out (d*6+4) _ (geg (by omega));have q5:=aE O2.out (d*6+5) _ (geg (by omega));generalize (aI es)[d*6]'_=y0 at q0;generalize (aI es)[d*6+1]'_=y1 at q1;generalize (aI es)[d*6+2]'_=y2 at q2;generalize (aI es)[d*6+3]'_=y3 at q3;generalize (aI es)[d*6+4]'_=y4 at q4;generalize (aI es)[d*6+5]'_=y5 at q5;have s0:=aQ O2.out (d*6);have s1:=aQ O2.out (d*6+1);have s2:=aQ O2.out (d*6+2);have s3:=aQ O2.out (d*6+3);have s4:=aQ O2.out (d*6+4);have s5:=aQ O2.out (d*6+5);go_still_tail 14,(by kernel_rfl);go_wp2;go_end0;refine ⟨rfl,?_,?_⟩
     ·rw [HD.out,iG es d _ (by rw [HN.out];exact hdn)];exact ky (aF (aF (aF (aF (aF (aF O2.out _ _) _ _) _ _) _ _) _ _) _ _)
     ·first
       | (replace mL:=mL;exact dY (uC n2) (dY (F9 v2 g (d*6) _ _ _ _ _ _) (rJ _ _)))
       | (replace mP:=mP;exact dY (uC n2) (dY (Ga v2 g (d*6) _ _ _ _ _ _) (rJ _ _)))
end
theorem yJ (pt lv va asd:Int) (w:World) (hl:lv=0∨lv=1∨lv=2) (hv0:0<=va) (hv1:va<=18446744073709551615) (h0:0<=pt) (h1:pt<=18446744073709551615):
 Calls Tryz.prog 237 #[VU pt,VI lv,VU va,VU asd] w fun e w'=>e=.returned (.agg #[VI lv,VU (gx va lv),VU asd,.bool (bX pt 32)])∧Bw w w':=by
 obtain ⟨tm,htm⟩:∃tm,gx va lv=tm:=⟨_,rfl⟩;obtain ⟨g5,hg5⟩:∃g5,bX pt 32=g5:=⟨_,rfl⟩;have HT:Hid (∀w,Calls Tryz.prog 168 #[VU va,VI lv] w fun e w'=>e=.returned (VU tm)∧∃n,w'=w.drewN n):=fun w=>by
  have:=zl va lv w hv0 hv1 hl;rw [htm] at this;exact this
 have HB:Hid (∀w,Calls Tryz.prog 164 #[VU pt,VU 32] w fun e w'=>e=.returned (.bool g5)∧w'=w):=fun w=>by
  have:=dR pt 32 w;rw [dX 5 pt 32 rfl (by omega) h0 h1,hg5] at this;exact this
 rw [htm,hg5];clear htm hg5;obtain ⟨v1,Ev1,n1,H1,_⟩:=al1 w #[VI 0,VU 0,VU 0,.bool false] 244;go_enter Tryz.func237,Tryz.ntmps237;go_wp2_with fail;rw [Ev1.out];clear Ev1;refine (HT.out v1).mono ?_;rintro e v2 ⟨rfl,q,rfl⟩;have n2:Bw w (v1.drewN q):=below_drewN n1 q;have H2:Hid ((v1.drewN q).heap[w.heap.size]?=some (.cells #[VI 0,VU 0,VU 0,.bool false] 244 (0,0))):=H1;generalize v1.drewN q=v2 at n2 H2 |-;obtain ⟨⟨d0,d1,d2,d3⟩,e0,e1,e2,e3⟩:=ay H2.out;go_wp2_with (go_at_call 164;refine (HB.out _).mono ?_;rintro e w' ⟨rfl,rfl⟩);exact bodyPost_ret (v:=.agg #[VI lv,VU tm,VU asd,.bool g5]) (by simp [results,Tryz.results237,go_sem,d0,d1,d2,d3]) rfl ⟨rfl,FR n2 nle _ _ _ _⟩
def ts (z0:Nat) (z1:Nat):Prop:=∀(b o g n base:Nat) (t:TlbM) (pt lv va asd pick:Int) (w:World) (hn:t.es.length=n) (hn1:n<=1048576) (hs4:t.sets=1∨t.sets=2∨t.sets=4∨t.sets=8) (hw1:1<=t.ways) (hw4:t.ways<=4) (hnw:(n:Int)=t.sets*t.ways) (hbl:b<w.heap.size) (hbg:b≠g)
 (c0:w.cell? (AD b o)=some (VI t.sets)) (c1:w.cell? ⟨b,o+1,none⟩=some (VI t.ways)) (c2:w.cell? ⟨b,o+2,none⟩=some (SL g n n)) (ho:w.ownsRow base z1 6 (SL g n n) n (aI t.es))
 (hl:lv=0∨lv=1∨lv=2) (hv0:0<=va) (hv1:va<=18446744073709551615) (h0:0<=pt) (h1:pt<=18446744073709551615) (hp0:0<=pick) (hp1:pick<=255),Calls Tryz.prog z0 #[PT b o,VU pt,VI lv,VU va,VU asd,VI pick] w fun x w'=>x=.returned (.tuple #[])∧
  w'.ownsRow base z1 6 (SL g n n) n (aI (t.es.set (fA t ⟨true,lv,gx va lv,asd,bX pt 32,pt⟩+jW t ⟨true,lv,gx va lv,asd,bX pt 32,pt⟩ pick) ⟨true,lv,gx va lv,asd,bX pt 32,pt⟩))∧w.grownBy w' (some g)
theorem qJ:ts 234 246∧ts 233 251:=by
 refine ⟨?_,?_⟩;have mL:=trivial
 rotate_left
 have mP:=trivial
 rotate_left
 all_goals
  intro b o g n base t pt lv va asd pick w hn hn1 hs4 hw1 hw4 hnw hbl hbg c0 c1 c2 ho hl hv0 hv1 h0 h1 hp0 hp1;have hgl:=(bI ho).2.2;simp only at hgl;first
   | (replace mL:=mL;have HO:Hid (w.ownsRow base 246 6 (SL g n n) n (aI t.es)):=ho)
   | (replace mP:=mP;have HO:Hid (w.ownsRow base 251 6 (SL g n n) n (aI t.es)):=ho)
  have htb:=te va lv hl;have HR:=hid fun w=>yJ pt lv va asd w hl hv0 hv1 h0 h1;generalize gx va lv=tm at *;generalize bX pt 32=g5 at *;clear ho;first
   | (replace mL:=mL;go_enter Tryz.func234,Tryz.ntmps234)
   | (replace mP:=mP;go_enter Tryz.func233,Tryz.ntmps233)
  go_wp2_with fail;refine (HR.out w).mono ?_;rintro e v1 ⟨rfl,n1⟩;have n2:=n1.alloc n1.size (Obj.cells #[VI lv,VU tm,VU asd,.bool g5] 244);go_wp2_with fail;generalize v1.alloc (Obj.cells #[VI lv,VU tm,VU asd,.bool g5] 244)=v2 at n2 |-;first
   | (replace mL:=mL;refine (rk.1 b o g n base t ⟨true,lv,tm,asd,g5,pt⟩ pick v2 hn hn1 hs4 hw1 hw4 hnw (ltl hbl n2.size) hbg (Below.cell2 n2 c0 hbl) (Below.cell2 n2 c1 hbl) (Below.cell2 n2 c2 hbl) (aj HO.out n2) htb.1 (by simp only;omega) hp0 hp1).mono ?_)
   | (replace mP:=mP;refine (rk.2 b o g n base t ⟨true,lv,tm,asd,g5,pt⟩ pick v2 hn hn1 hs4 hw1 hw4 hnw (ltl hbl n2.size) hbg (Below.cell2 n2 c0 hbl) (Below.cell2 n2 c1 hbl) (Below.cell2 n2 c2 hbl) (aj HO.out n2) htb.1 (by simp only;omega) hp0 hp1).mono ?_)
  rintro e v3 ⟨rfl,o3,m3⟩;go_wp2;go_end0;exact ⟨rfl,o3,dY (uC n2) m3⟩
section
attribute [local go_sem ↓] Go.wp_at_zero Go.wp_at_succ
theorem Keeps.row {w w':World} {x y z g n size:Nat} {cs:List Value} (h:RowC w (some (AD g 0)) n size cs) (hk:Keeps w w' x y z) (h1:g≠x) (h2:g≠y) (h3:g≠z):RowC w' (some (AD g 0)) n size cs:=by
 obtain ⟨a,b⟩:=h;refine ⟨a,?_⟩;rcases b with b | ⟨q,o,e,hlt,hc⟩
 ·exact .inl b
 ·cases e;exact .inr ⟨g,0,rfl,ltl hlt hk.2.2.2.1,fun i v hi=>(World.cell?_of_block (hk.2.2.2.2 g hlt h1 h2 h3)).trans (hc i v hi)⟩
theorem Ab:∀(rs:List ef) (j:Nat) (r:ef),rs[j]?=some r->(dc rs)[j*3]?=some (VI r.1)∧(dc rs)[j*3+1]?=some (VU r.2.1)∧(dc rs)[j*3+2]?=some (VU r.2.2)
 | x::rs,0,r,h=>by
  simp at h;subst h;simp [dc,sy]
 | x::rs,j+1,r,h=>by
  have ih:=Ab rs j r (by simpa using h);have e0:(j+1)*3=j*3+3:=by omega
  rw [e0];simpa [dc,sy] using ih
theorem AW (va satp pick:Int) (ps:List ef) (j:Nat) (r:ef) (p:TlbM) (h:ps[j]?=some r) (hk:bH r.2.2 r.1=1):cG va satp pick (ps.take (j+1)) p=dg (cG va satp pick (ps.take j) p) (eU r.1 va satp r.2.2) pick:=by
 rw [List.take_add_one,h,jN];simp only [Option.toList,cG];rw [if_pos hk]
theorem oK {t:TlbM} {e:EntM} {pick:Int} {p:Bool} (hv:aR t p=true) (hg:aZ e p=true) (hp:0<=pick∧pick<=255):dg t e pick=⟨t.sets,t.ways,t.es.set (fA t e+jW t e pick) e⟩:=by
 have hf:kZ t e=true:=by
  simp only [kZ,Bool.or_eq_true,Bool.and_eq_true];cases p
  ·exact .inr ⟨hv,hg⟩
  ·exact .inl ⟨hv,hg⟩
 unfold dg;rw [if_pos ⟨hf,hp.1,hp.2⟩]
def fE (k:KM) (kind va satp pick:Int) (r:Int × Int × Int × List ef) (code:Int):KM:=
 if code=1 then th ⟨k.i,k.d,cG va satp pick r.2.2.2 k.p⟩ kind (dg (eV k kind) (eU r.2.1 va satp r.2.2.1) pick) else ⟨k.i,k.d,cG va satp pick r.2.2.2 k.p⟩
end
def Fq (w w':World) (e:Ending) (b base gi gd gp:Nat) (k:KM) (r:Int × Int × Int × List ef) (mode:Int) (sum mxr:Bool) (satp kind va pick:Int):Prop:=
 ∃pa code,e=.returned (.tuple #[VU pa,cM code])∧(code=1∨code=2∨code=3)∧db r mode sum mxr kind va=(if code=1 then 0 else if code=2 then eR kind else bP kind,pa)∧SetM w' b base gi gd gp (fE k kind va satp pick r code)∧Keeps w w' gi gd gp
theorem ox (b base gi gd gp:Nat) (k:KM) (sv:Value) (zs:List Int) (mode:Int) (sum mxr:Bool) (satp kind va pick:Int) (w:World) (hS:SetM w b base gi gd gp k) (hk:bJ k=true) (hko:∀e∈k.p.es,fq e) (hli:k.i.es.length<=1048576) (hld:k.d.es.length<=1048576) (hkl:k.p.es.length<=1048576)
 (hB:SrcAt w sv zs) (hv0:0<=va) (hv1:va<=18446744073709551615) (hr0:0<=satp) (hr1:satp<=18446744073709551615) (hp0:0<=pick) (hp1:pick<=255):
 Calls Tryz.prog 230 #[PT b 20,sv,.agg #[VI mode,.bool sum,.bool mxr,VU satp],VI kind,VU va,VI pick] w fun e w'=>Fq w w' e b base gi gd gp k (aW zs satp va (aY k.p va (aK satp))) mode sum mxr satp kind va pick:=by
 have hvs:aR k.i false=true∧aR k.d false=true∧aR k.p true=true:=by
  simp only [bJ,Bool.and_eq_true] at hk;exact ⟨hk.1.1,hk.1.2,hk.2⟩
 obtain ⟨vI,vD,vP⟩:=hvs;obtain ⟨ps,hsp,hpl⟩:=ot zs satp va k.p (aK satp) vP hB.bd;have HS:=hid hS;have HB:=hid hB;have hb:=hS.lt;have lgi:=(bI hS.2.1.1).2.2;have lgd:=(bI hS.2.1.2.1).2.2;have lgp:=(bI hS.2.1.2.2.1).2.2;simp only at lgi lgd lgp;have HWk:=hid fun u (hu:Bw w u)=>Cs b base gi gd gp k sv zs satp va u (HS.out.keep hu) vP hko hkl (HB.out.keep hu) hv0 hv1 hr0 hr1;have HA:=hid fun (u:World)=>mS satp u hr0 hr1;generalize aW zs satp va (aY k.p va (aK satp))=r at *;have HSp:=hid hsp;obtain ⟨v1,Ev1,n1,H1,l1⟩:=al1 w #[VI mode,.bool sum,.bool mxr,VU satp] 134;clear hS hB hsp;go_enter Tryz.func230,Tryz.ntmps230;go_wp2_with fail;rw [Ev1.out];clear Ev1;refine (HA.out v1).mono ?_;rintro e v1' ⟨rfl,rfl⟩;rename World=>v1;obtain ⟨⟨c0,c1,c2,c3⟩,_,_,_,_⟩:=ay H1.out;go_wp2_with fail;refine (HWk.out v1 n1).mono ?_;rintro e v2 ⟨hw,n2⟩;obtain ⟨ra,rc,rfl,o2⟩:=hw;obtain ⟨cd,lv,lf,rs⟩:=r;simp only at o2 |-;obtain ⟨fv,hfv⟩:∃fv,cM cd=fv:=⟨_,rfl⟩;have HFv:=hid hfv;rw [hfv];clear hfv;have n3:=n2.alloc n2.size (Obj.cells #[VI lv,VU lf,.slice ra rs.length rc] 312);have n3':=(Below.refl v2.heap.size v2).alloc nle (Obj.cells #[VI lv,VU lf,.slice ra rs.length rc] 312);have H3:=ah H1 n3;have W3:Hid ((v2.alloc (Obj.cells #[VI lv,VU lf,.slice ra rs.length rc] 312)).heap[v2.heap.size]?=some (.cells #[VI lv,VU lf,.slice ra rs.length rc] 312 (0,0))):=er v2 _;have RO3:=aj o2 n3';have A3:=bst n1 n3;have s2:=n2.size;have s1:=n1.size;have s3:=n3'.size;clear c0 c1 c2 c3 n1 n2 n3 n3' o2 HWk HA;go_wp2_with fail;generalize v2.alloc (Obj.cells #[VI lv,VU lf,.slice ra rs.length rc] 312)=v3 at H3 W3 RO3 A3 s3 |-;have HPt:Hid (Calls Tryz.prog 199 #[.agg #[VI lv,VU lf,.slice ra rs.length rc]] v3 fun e w'=>(∃gr,e=.returned (.slice gr ps.length rc)∧(0<ps.length->∃gq,gr=some (AD gq 0)∧v1.heap.size<=gq∧gq<v3.heap.size∧RowC v3 (some (AD gq 0)) rs.length 3 (dc rs)))∧Bw v3 w'):=by
  rcases HSp.out.2 with ⟨e1,⟨ad,e2⟩,e3,e4,e5,e6⟩ | ⟨e1,e2,e3⟩
  ·simp only at e1 e2 e3 e4 e5 e6;have hlf:lf≠0:=by rintro rfl;exact absurd e3 (zh _)
   have hrl:rs.length=ps.length+1:=by rw [e2];simp
   rcases RO3.2 with ⟨h2,h3⟩ | ⟨gq,cq,cur,h2,hb2,hg2,hc1,hc2,_⟩
   ·omega
   ·cases h2;have hat:=bI RO3;have:=tV lv lf gq ps.length rc v3 hlf (by omega) (by omega) (by unfold maxLen at hc2;omega);rw [hrl];refine this.mono ?_;rintro e w' ⟨rfl,nb⟩;exact ⟨⟨_,rfl,fun _=>⟨gq,rfl,hb2,hat.2.2,by rw [<-hrl];exact dM RO3⟩⟩,nb⟩
  ·simp only at e1 e2 e3;subst e2;subst e3;refine (tU lv ra rs.length rc v3).mono ?_;rintro e w' ⟨rfl,nb⟩;refine ⟨⟨_,rfl,fun hpos=>?_⟩,nb⟩;rcases RO3.2 with ⟨h2,h3⟩ | ⟨gq,cq,cur,h2,hb2,hg2,hc1,hc2,_⟩
   ·omega
   ·cases h2;exact ⟨gq,rfl,hb2,(bI RO3).2.2,dM RO3⟩
 refine HPt.out.mono ?_;rintro e v4 ⟨⟨gr,rfl,hgr⟩,n4⟩;have HGr:=hid hgr;have H4:=ah H3 n4;have W4:=ah W3 n4;have A4:=bst A3 n4;have S4:=HS.out.keep A4;have HN4:=hid n4;have s4:=n4.size;clear hgr HPt H3 W3 RO3 n4 A3;go_wp2;go_loopw [35] (fun i wr=>∃j:Nat,j<=ps.length∧i=VI j∧SetM wr b base gi gd gp ⟨k.i,k.d,cG va satp pick (ps.take j) k.p⟩∧Keeps v4 wr gi gd gp) (fun i _=>ps.length-(intOf i).toNat)
 case atStart=>exact ⟨0,Nat.zero_le _,rfl,by simpa [cG] using S4,Keeps.refl _ _ _ _⟩
 case round=>
  obtain ⟨j,hj,rfl,hSr,hKr⟩:=hrel;have SR:=hid hSr;have KR:=hid hKr;have sr:=hKr.2.2.2.1;clear hSr hKr;by_cases hlt:j<ps.length
  ·obtain ⟨gq,rfl,hq1,hq2,hq3⟩:=HGr.out (by omega);obtain ⟨q,hq⟩:∃q,ps[j]?=some q:=⟨_,geg hlt⟩;have hrq:rs[j]?=some q:=by
    rcases HSp.out.2 with ⟨_,⟨ad,e2⟩,_⟩ | ⟨_,e2,_⟩
    ·simp only at e2;rw [e2,List.getElem?_append_left hlt];exact hq
    ·simp only at e2;rw [e2];exact hq
   have hrl:=(List.getElem?_eq_some_iff.1 hrq).1;have RQ:=Keeps.row (hq3.keep HN4.out) KR.out (by omega) (by omega) (by omega);obtain ⟨f0,f1,f2⟩:=Ab rs j q hrq;have hcell:∀i v,(dc rs)[i]?=some v->wr.cell? (AD gq i)=some v:=fun i v h=>by
    rcases RQ.2 with h0 | ⟨b',o',e',_,hc⟩
    ·omega
    ·cases e';have:=hc i v h;rwa [Nat.zero_add] at this
   have g0:=hcell _ _ f0;have g1:=hcell _ _ f1;have g2:=hcell _ _ f2;obtain ⟨hkd,hq0,hq2',hv0',hv1'⟩:=HSp.out.1 q (List.mem_of_getElem? hq);have HQ:=hid hq;have hrlc:rs.length<=rc∨True:=.inr trivial;clear RQ f0 f1 f2 hcell hq3 hrq hq;obtain ⟨v5,Ev5,n5,E5,_⟩:=al1 wr #[VI q.1,VU q.2.1,VU q.2.2] 142;go_wp2_with fail;rw [Ev5.out];clear Ev5;have S5:=SR.out.keep n5;obtain ⟨⟨g0,g1,g2⟩,_,_,_⟩:=aA E5.out;go_still_tail 10,(by kernel_rfl);go_wp2_with fail;have D5:=bdr v5;have S5d:=S5.keep D5;have hpl5:=ma va satp pick (ps.take j) k.p;have hval:=oX va satp pick (ps.take j) k.p vP;have hsh:=fI hval;obtain ⟨p0,p1,p2⟩:=S5d.cellP;have hwant:bH q.2.2 q.1=iT true:=by rw [hkd];rfl
   refine (qJ.2 b 26 gp (cG va satp pick (ps.take j) k.p).es.length base (cG va satp pick (ps.take j) k.p) q.2.2 q.1 va (aK satp) pick v5.drew rfl (by rw [hpl5.1];exact hkl) hsh.1 hsh.2.1 hsh.2.2.1 hsh.2.2.2 S5d.lt S5d.2.2.2.2 p0 p1 p2 S5d.2.1.2.2.1 (by omega) hv0 hv1 hv0' hv1' hp0 hp1).mono ?_;rintro e v6 ⟨rfl,o6,m6⟩;have hins:=oK hval (kz q.1 va satp q.2.2 true hwant) ⟨hp0,hp1⟩;have hnew:cG va satp pick (ps.take (j+1)) k.p=⟨(cG va satp pick (ps.take j) k.p).sets,(cG va satp pick (ps.take j) k.p).ways,(cG va satp pick (ps.take j) k.p).es.set (fA (cG va satp pick (ps.take j) k.p) (eU q.1 va satp q.2.2)+jW (cG va satp pick (ps.take j) k.p) (eU q.1 va satp q.2.2) pick) (eU q.1 va satp q.2.2)⟩:=by
    rw [AW va satp pick ps j q k.p HQ.out hkd,hins]
   have R6:=RowsAt.putP S5d.2.1 m6 List.length_set o6;have B6:=CellsM.gb S5d.1 m6 S5d.2.2.2.2;have K6:=(KR.out.trans (Keeps.of_below _ _ _ (bst n5 D5))).trans (Keeps.of_gb gi gd gp m6 (.inr (.inr rfl)));have HR6:Hid (SetM v6 b base gi gd gp ⟨k.i,k.d,cG va satp pick (ps.take (j+1)) k.p⟩):=by
    rw [hnew];refine ⟨?_,R6,S5d.2.2⟩;simpa only [iw,List.length_set] using B6
   have HK6:=hid K6;clear S5 S5d hpl5 hval hsh p0 p1 p2 hwant o6 m6 hins hnew R6 B6 K6 g0 g1 g2 E5 n5 D5;go_wp2;go_roundw
   case rel=>exact ⟨j+1,by omega,by go_num,HR6.out,HK6.out⟩
   case measure=>simp [intOf];omega
  ·have hje:j=ps.length:=by omega
   subst hje;have q1:=Fd;have q2:=Fe;have q3:=Ff;have SE:SetM wr b base gi gd gp ⟨k.i,k.d,cG va satp pick rs k.p⟩:=by
    have h:=SR.out;rw [List.take_length] at h;have:=zj va satp pick k.p HSp.out;simp only at this;rw [this];exact h
   have WE:=hid (KR.out.heap W4.out (by omega) (by omega) (by omega));have CE:=hid (KR.out.heap H4.out (by omega) (by omega) (by omega));have KE:=(Keeps.of_below _ _ _ A4).trans KR.out;rcases HSp.out.2 with ⟨e1,⟨ad,e2⟩,e3,e4,e5,e6⟩ | ⟨e1,e2,e3⟩
   ·simp only at e1 e2 e3 e4 e5 e6;subst e1;obtain rfl:fv=.nilIface:=by rw [<-HFv.out];rfl
    obtain ⟨⟨c0,c1,c2,c3⟩,_,_,_,_⟩:=ay CE.out;obtain ⟨⟨d0,d1,d2⟩,_,_,_⟩:=aA WE.out;have HTL:=hid fun (u:World)=>gV lf lv mode sum mxr satp kind va u e6.1 e6.2 hv0 hv1 (by omega);go_wp2_with fail;refine (HTL.out wr).mono ?_;by_cases hgr:du lf kind mode sum mxr=true
    ·rw [if_pos hgr,if_pos hgr,show cM 1=.nilIface from rfl];rintro e v6 ⟨rfl,N6⟩;have W6:=ah WE N6;have D6:=bdr v6;have N6d:=bst N6 D6;have S6:=SE.keep N6d;clear c0 c1 c2 c3 d0 d1 d2;obtain ⟨⟨d0,d1,d2⟩,_,_,_⟩:=aA W6.out;have HLv:=hid fun (u:World)=>xh b kind u;go_wp2_with fail;refine dq 10 (by kernel_rfl) (by kernel_rfl) ?_;simp only [List.take_succ_cons,List.take_zero,List.drop_succ_cons,List.drop_zero];repeat still_step
     still_call (HLv.out _)
     repeat still_step
     refine wpStill_nil ?_;by_cases hkz:kind=0
     ·rw [if_pos hkz];go_wp2_with fail;have hsh:=fI vI;refine (qJ.1 b 20 gi k.i.es.length base k.i lf lv va (aK satp) pick v6.drew rfl hli hsh.1 hsh.2.1 hsh.2.2.1 hsh.2.2.2 S6.lt S6.2.2.1 (S6.cellI).1 (S6.cellI).2.1 (S6.cellI).2.2 S6.2.1.1 (by omega) hv0 hv1 e6.1 e6.2 hp0 hp1).mono ?_;rintro e v7 ⟨rfl,o7,m7⟩;have hins:=oK vI (kz lv va satp lf false e3) ⟨hp0,hp1⟩;have R7:=RowsAt.putI S6.2.1 m7 List.length_set o7;have B7:=CellsM.gb S6.1 m7 S6.2.2.1;have K7:=(KE.trans (Keeps.of_below _ _ _ N6d)).trans (Keeps.of_gb gi gd gp m7 (.inl rfl));have T7:Hid (SetM v7 b base gi gd gp (fE k kind va satp pick (1,lv,lf,rs) 1)):=by
       have hkm:fE k kind va satp pick (1,lv,lf,rs) 1=⟨⟨k.i.sets,k.i.ways,k.i.es.set (fA k.i (eU lv va satp lf)+jW k.i (eU lv va satp lf) pick) (eU lv va satp lf)⟩,k.d,cG va satp pick rs k.p⟩:=by
        unfold fE th eV;simp only [if_true];first
         | (rw [if_pos hkz,if_pos hkz,hins])
         | (rw [if_neg hkz,if_neg hkz,hins])
       rw [hkm];refine ⟨?_,R7,S6.2.2⟩;simpa only [iw,List.length_set] using B7
      have HK7:=hid K7;clear o7 m7 hins R7 B7 K7;go_wp2_with fail;refine bodyPost_ret (v:=.tuple #[VU (gM lf lv va),.nilIface]) (by simp [results,Tryz.results230,go_sem]) rfl ⟨_,1,rfl,.inl rfl,?_,T7.out,HK7.out⟩;simp only [db,ft,if_pos hgr];simp
     ·rw [if_neg hkz];go_wp2_with fail;have hsh:=fI vD;refine (qJ.1 b 23 gd k.d.es.length base k.d lf lv va (aK satp) pick v6.drew rfl hld hsh.1 hsh.2.1 hsh.2.2.1 hsh.2.2.2 S6.lt S6.2.2.2.1 (S6.cellD).1 (S6.cellD).2.1 (S6.cellD).2.2 S6.2.1.2.1 (by omega) hv0 hv1 e6.1 e6.2 hp0 hp1).mono ?_;rintro e v7 ⟨rfl,o7,m7⟩;have hins:=oK vD (kz lv va satp lf false e3) ⟨hp0,hp1⟩;have R7:=RowsAt.putD S6.2.1 m7 List.length_set o7;have B7:=CellsM.gb S6.1 m7 S6.2.2.2.1;have K7:=(KE.trans (Keeps.of_below _ _ _ N6d)).trans (Keeps.of_gb gi gd gp m7 (.inr (.inl rfl)));have T7:Hid (SetM v7 b base gi gd gp (fE k kind va satp pick (1,lv,lf,rs) 1)):=by
       have hkm:fE k kind va satp pick (1,lv,lf,rs) 1=⟨k.i,⟨k.d.sets,k.d.ways,k.d.es.set (fA k.d (eU lv va satp lf)+jW k.d (eU lv va satp lf) pick) (eU lv va satp lf)⟩,cG va satp pick rs k.p⟩:=by
        unfold fE th eV;simp only [if_true];first
         | (rw [if_pos hkz,if_pos hkz,hins])
         | (rw [if_neg hkz,if_neg hkz,hins])
       rw [hkm];refine ⟨?_,R7,S6.2.2⟩;simpa only [iw,List.length_set] using B7
      have HK7:=hid K7;clear o7 m7 hins R7 B7 K7;go_wp2_with fail;refine bodyPost_ret (v:=.tuple #[VU (gM lf lv va),.nilIface]) (by simp [results,Tryz.results230,go_sem]) rfl ⟨_,1,rfl,.inl rfl,?_,T7.out,HK7.out⟩;simp only [db,ft,if_pos hgr];simp
    ·rw [if_neg hgr,if_neg hgr,show cM 2=.iface 288 (.agg #[]) from rfl];rintro e v6 ⟨rfl,N6⟩;go_wp2_with fail;refine bodyPost_ret (v:=.tuple #[VU 0,.iface 288 (.agg #[])]) (by simp [results,Tryz.results230,go_sem]) rfl ⟨0,2,rfl,.inr (.inl rfl),?_,?_,KE.trans (Keeps.of_below _ _ _ N6)⟩
     ·simp only [db,ft,if_neg hgr];simp
     ·have hkm:fE k kind va satp pick (1,lv,lf,rs) 2=⟨k.i,k.d,cG va satp pick rs k.p⟩:=by simp [fE]
      rw [hkm];exact SE.keep N6
   ·simp only at e1 e2 e3;rcases e1 with rfl | rfl
    ·obtain rfl:fv=.iface 288 (.agg #[]):=by rw [<-HFv.out];rfl
     go_wp2_with fail;refine bodyPost_ret (v:=.tuple #[VU 0,.iface 288 (.agg #[])]) (by simp [results,Tryz.results230,go_sem]) rfl ⟨0,2,rfl,.inr (.inl rfl),by simp [db],?_,KE⟩;have hkm:fE k kind va satp pick (2,lv,lf,rs) 2=⟨k.i,k.d,cG va satp pick rs k.p⟩:=by simp [fE]
     rw [hkm];exact SE
    ·obtain rfl:fv=.iface 289 (.agg #[]):=by rw [<-HFv.out];rfl
     go_wp2_with fail;refine bodyPost_ret (v:=.tuple #[VU 0,.iface 289 (.agg #[])]) (by simp [results,Tryz.results230,go_sem]) rfl ⟨0,3,rfl,.inr (.inr rfl),by simp [db],?_,KE⟩;have hkm:fE k kind va satp pick (3,lv,lf,rs) 3=⟨k.i,k.d,cG va satp pick rs k.p⟩:=by simp [fE]
     rw [hkm];exact SE
end Go.Proofs.YtkenjknmfhoppaaGreat
