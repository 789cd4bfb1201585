import Derived.Test.YtkenjknmfhoppaaGreatPk17
import Derived.Test.YtkenjknmfhoppaaGreatPk12
namespace Go.Proofs.YtkenjknmfhoppaaGreat
open Go.RowKit
set_option linter.unusedVariables false
set_option maxHeartbeats 6400000
set_option maxRecDepth 20000
section
attribute [local go_sem ↓] Go.wp_at_zero Go.wp_at_succ
theorem Jr (w:World) (g i:Nat) (x y z u v t:Value):w.grownBy ((((((w.setCell (AD g i) x).setCell ⟨g,i+1,none⟩ y).setCell ⟨g,i+2,none⟩ z).setCell ⟨g,i+3,none⟩ u).setCell ⟨g,i+4,none⟩ v).setCell ⟨g,i+5,none⟩ t) (some g):=
 au (au (au (au (au (au (ak w (some g)) _ _) _ _) _ _) _ _) _ _) _ _
theorem Js (w:World) (g i:Nat) (x y z u v t:Value):w.grownBy ((((((w.setCell (AD g i) x).setCell ⟨g,i+1,none⟩ y).setCell ⟨g,i+2,none⟩ z).setCell ⟨g,i+3,none⟩ u).setCell ⟨g,i+4,none⟩ v).setCell ⟨g,i+5,none⟩ t) (some g):=
 au (au (au (au (au (au (ak w (some g)) _ _) _ _) _ _) _ _) _ _) _ _
def qu (z0:Nat) (z1:Nat):Prop:=∀(b o g n base:Nat) (t:TlbM) (e:EntM) (pick:Int) (w:World) (hn:t.es.length=n) (hn1:n<=1048576) (hs4:t.sets=1∨t.sets=2∨t.sets=4∨t.sets=8) (hw1:1<=t.ways) (hw4:t.ways<=4) (hnw:(n:Int)=t.sets*t.ways) (hbl:b<w.heap.size) (hbg:b≠g)
 (c0:w.cell? (AD b o)=some (VI t.sets)) (c1:w.cell? ⟨b,o+1,none⟩=some (VI t.ways)) (c2:w.cell? ⟨b,o+2,none⟩=some (SL g n n)) (ho:w.ownsRow base z1 6 (SL g n n) n (aC t.es)) (ht0:0<=e.tag) (ht1:e.tag<=18446744073709551615) (hp0:0<=pick) (hp1:pick<=255),Calls Tryz.prog z0 #[PT b o,dF e,VI pick] w fun x w'=>x=.returned (.tuple #[])∧w'.ownsRow base z1 6 (SL g n n) n (aC (t.es.set (gQ t e+pE t e pick) e))∧w.grownBy w' (some g)
theorem rK:qu 239 246∧qu 238 251:=by
 refine ⟨?_,?_⟩;have mL:=trivial
 rotate_left
 have mP:=trivial
 rotate_left
 all_goals
  intro b o g n base t e pick w hn hn1 hs4 hw1 hw4 hnw hbl hbg c0 c1 c2 ho ht0 ht1 hp0 hp1;obtain ⟨sets,ways,es⟩:=t;obtain ⟨vv,lv,tg,asd,gl,pt⟩:=e;simp only at *;first
   | (replace mL:=mL;have HO:Hid (w.ownsRow base 246 6 (SL g n n) n (aC es)):=ho)
   | (replace mP:=mP;have HO:Hid (w.ownsRow base 251 6 (SL g n n) n (aC es)):=ho)
  have HN:=hid hn;have hg:=(db ho).2.2;simp only at hg;clear ho hn;obtain ⟨sx,hsx⟩:∃sx,tg%sets=sx:=⟨_,rfl⟩;have hsb:0<=sx∧sx<sets:=by rw [<-hsx];exact ⟨Int.emod_nonneg _ (by omega),Int.emod_lt_of_pos _ (by omega)⟩
  obtain ⟨f,hf⟩:∃f:Nat,(f:Int)=sx*ways:=⟨(sx*ways).toNat,Int.toNat_of_nonneg (Int.mul_nonneg hsb.1 (by omega))⟩;have hfn:(f:Int)+ways<=n:=by
   rw [hnw,hf];have:(sx+1)*ways<=sets*ways:=Int.mul_le_mul_of_nonneg_right (by omega) (by omega);rw [Int.add_mul,Int.one_mul] at this;exact this
  have HFi:Hid (gQ ⟨sets,ways,es⟩ ⟨vv,lv,tg,asd,gl,pt⟩=f):=by
   show _=_;unfold gQ;simp only;rw [hsx,<-hf];simp
  have HWm:=hid hf.symm;obtain ⟨P,hP⟩:∃P,pE ⟨sets,ways,es⟩ ⟨vv,lv,tg,asd,gl,pt⟩ pick=P:=⟨_,rfl⟩;have HW:=hid hP;rw [HFi.out,hP];clear hP hnw;unfold dF;simp only;first
   | (replace mL:=mL;have n1:=(Below.refl w.heap.size w).alloc nle (Obj.cells #[VI lv,VU tg,VU asd,.bool gl,.bool vv,VU pt] 246))
   | (replace mP:=mP;have n1:=(Below.refl w.heap.size w).alloc nle (Obj.cells #[VI lv,VU tg,VU asd,.bool gl,.bool vv,VU pt] 251))
  first
   | (replace mL:=mL;have H1:Hid ((w.alloc (Obj.cells #[VI lv,VU tg,VU asd,.bool gl,.bool vv,VU pt] 246)).heap[w.heap.size]?=some (.cells #[VI lv,VU tg,VU asd,.bool gl,.bool vv,VU pt] 246 (0,0))):=fE w _)
   | (replace mP:=mP;have H1:Hid ((w.alloc (Obj.cells #[VI lv,VU tg,VU asd,.bool gl,.bool vv,VU pt] 251)).heap[w.heap.size]?=some (.cells #[VI lv,VU tg,VU asd,.bool gl,.bool vv,VU pt] 251 (0,0))):=fE w _)
  first
   | (replace mL:=mL;have l1:(w.alloc (Obj.cells #[VI lv,VU tg,VU asd,.bool gl,.bool vv,VU pt] 246)).heap.size=w.heap.size+1:=by simp)
   | (replace mP:=mP;have l1:(w.alloc (Obj.cells #[VI lv,VU tg,VU asd,.bool gl,.bool vv,VU pt] 251)).heap.size=w.heap.size+1:=by simp)
  first
   | (replace mL:=mL;go_enter Tryz.func239,Tryz.ntmps239)
   | (replace mP:=mP;go_enter Tryz.func238,Tryz.ntmps238)
  go_wp2_with fail;first
   | (replace mL:=mL;generalize w.alloc (Obj.cells #[VI lv,VU tg,VU asd,.bool gl,.bool vv,VU pt] 246)=v1 at n1 H1 l1 |-)
   | (replace mP:=mP;generalize w.alloc (Obj.cells #[VI lv,VU tg,VU asd,.bool gl,.bool vv,VU pt] 251)=v1 at n1 H1 l1 |-)
  have r0:=Below.cell2 n1 c0 hbl;have r1:=Below.cell2 n1 c1 hbl;obtain ⟨⟨x0,x1,x2,x3,x4,x5⟩,_⟩:=jg H1.out;first
   | (replace mL:=mL;have HSt:Hid (∀q,Calls Tryz.prog 137 #[PT b o,VU tg] (v1.drewN q) fun e w'=>e=.returned (VI sx)∧w'=v1.drewN q):=fun q=>by
        have:=qL b o sets tg (v1.drewN q) hs4 r0 ht0 ht1
        rw [hsx] at this
        exact this)
   | (replace mP:=mP;have HSt:Hid (∀q,Calls Tryz.prog 139 #[PT b o,VU tg] (v1.drewN q) fun e w'=>e=.returned (VI sx)∧w'=v1.drewN q):=fun q=>by
        have:=qM b o sets tg (v1.drewN q) hs4 r0 ht0 ht1
        rw [hsx] at this
        exact this)
  clear hsx hf;go_cut [6] (fun s6 wx=>s6=VI f∧∃q,wx=v1.drewN q)
  case first=>
   first
    | (replace mL:=mL;go_quiet ((go_at_call 137;exact Calls.quiet_of_same (HSt.out _))))
    | (replace mP:=mP;go_quiet ((go_at_call 139;exact Calls.quiet_of_same (HSt.out _))))
   go_wp2;go_meet;exact ⟨by rw [HWm.out];(try (rw [show wrap64 (f:Int)=f from by unfold wrap64;omega])),nq,rfl⟩
  case rest=>
   obtain ⟨rfl,q,rfl⟩:=hcut;have n2:=below_drewN n1 q;first
    | (replace mL:=mL;have H2:Hid ((v1.drewN q).heap[w.heap.size]?=some (.cells #[VI lv,VU tg,VU asd,.bool gl,.bool vv,VU pt] 246 (0,0))):=H1)
    | (replace mP:=mP;have H2:Hid ((v1.drewN q).heap[w.heap.size]?=some (.cells #[VI lv,VU tg,VU asd,.bool gl,.bool vv,VU pt] 251 (0,0))):=H1)
   have l2:=l1;generalize v1.drewN q=v2 at n2 H2 l2 |-;first
    | (replace mL:=mL;have O2:Hid (v2.ownsRow base 246 6 (SL g n n) n (aC es)):=aq HO.out n2)
    | (replace mP:=mP;have O2:Hid (v2.ownsRow base 251 6 (SL g n n) n (aC es)):=aq HO.out n2)
   clear r0 r1 x0 x1 x2 x3 x4 x5 HSt H1 n1 l1 HWm;have r1:=Below.cell2 n2 c1 hbl;have r2:=Below.cell2 n2 c2 hbl;obtain ⟨⟨x0,x1,x2,x3,x4,x5⟩,_⟩:=jg H2.out;have hll:(aC es).length=n*6:=by rw [eN,HN.out]
   have hgw:g≠w.heap.size:=by omega
   have hwg:w.heap.size≠g:=by omega
   go_wp2
   go_loop [7] (fun i=>∃q:Nat,f<=q∧(q:Int)<=f+ways∧i=VI q∧Hid (∀q':Nat,f<=q'->q'<q->(es[q']?.getD cZ).valid=true)) (fun i=>f+4-(intOf i).toNat)
   case atStart=>exact ⟨f,nle,by omega,rfl,fun q' h h'=>absurd h' (by omega)⟩
   case round=>
    obtain ⟨q,hq1,hq2,rfl,HQ⟩:=hrel;by_cases hqt:(q:Int)<f+ways
    ·have hqn:q<n:=by omega
     obtain ⟨⟨wv,wl,wt,wa,wg,wp⟩,hx⟩:∃x,es[q]?=some x:=⟨_,geg (by rw [HN.out];exact hqn)⟩;have HXq:=hid hx;have g4:=qN O2.out HN.out q _ hx 4 _ (by omega) rfl;clear hx;cases wv
     ·have hP:P=q-f:=by
       rw [<-HW.out];unfold pE;simp only;rw [HFi.out,tl es f ways.toNat 0 (q-f) (by omega) (fun j hj=>by rw [Nat.zero_add];exact HQ.out (f+j) (by omega) (by omega)) (by rw [Nat.zero_add,show f+(q-f)=q by omega,HXq.out];rfl)];simp
      subst hP;go_wp2_with fail;have q0:=aM O2.out (q*6) _ (geg (by omega));have q1:=aM O2.out (q*6+1) _ (geg (by omega));have q2:=aM O2.out (q*6+2) _ (geg (by omega));have q3:=aM O2.out (q*6+3) _ (geg (by omega));have q4z:=aM O2.out (q*6+4) _ (geg (by omega));have q5:=aM O2.out (q*6+5) _ (geg (by omega));generalize (aC es)[q*6]'_=y0 at q0;generalize (aC es)[q*6+1]'_=y1 at q1;generalize (aC es)[q*6+2]'_=y2 at q2;generalize (aC es)[q*6+3]'_=y3 at q3;generalize (aC es)[q*6+4]'_=y4 at q4z;generalize (aC es)[q*6+5]'_=y5 at q5;have s0:=bQ O2.out (q*6);have s1:=bQ O2.out (q*6+1);have s2:=bQ O2.out (q*6+2);have s3:=bQ O2.out (q*6+3);have s4:=bQ O2.out (q*6+4);have s5:=bQ O2.out (q*6+5);go_still_tail 7,(by kernel_rfl);go_wp2_with fail;first
       | (replace mL:=mL;refine bodyPost_ret (v:=.tuple #[]) (by simp [results,Tryz.results239,go_sem]) rfl ⟨rfl,?_,?_⟩)
       | (replace mP:=mP;refine bodyPost_ret (v:=.tuple #[]) (by simp [results,Tryz.results238,go_sem]) rfl ⟨rfl,?_,?_⟩)
      ·rw [show f+(q-f)=q by omega,iG es q _ (by rw [HN.out];exact hqn)];exact tQ (bu (bu (bu (bu (bu (bu O2.out _ _) _ _) _ _) _ _) _ _) _ _)
      ·first
        | (replace mL:=mL;exact ex (uW n2) (ex (Jr v2 g (q*6) _ _ _ _ _ _) (rX _ _)))
        | (replace mP:=mP;exact ex (uW n2) (ex (Js v2 g (q*6) _ _ _ _ _ _) (rX _ _)))
     ·go_wp2
      go_round
      case rel=>exact ⟨q+1,by omega,by omega,by go_num,fun q' h1 h2=>by
       by_cases e:q'=q
       ·subst e;rw [HXq.out];rfl
       ·exact HQ.out q' h1 (by omega)⟩
      case measure=>simp [intOf];omega
    ·have hP:P=(pick%ways).toNat:=by
      rw [<-HW.out];unfold pE;simp only;rw [HFi.out,tn es f ways.toNat 0 (fun j hj=>by rw [Nat.zero_add];exact HQ.out (f+j) (by omega) (by omega))];rfl
     have hpm:0<=pick%ways∧pick%ways<ways:=⟨Int.emod_nonneg _ (by omega),Int.emod_lt_of_pos _ (by omega)⟩;obtain ⟨r,hr⟩:∃r:Nat,(r:Int)=pick%ways:=⟨(pick%ways).toNat,Int.toNat_of_nonneg hpm.1⟩;have hPr:P=r:=by rw [hP,<-hr];simp
     subst hPr;clear hP hpm;have hrm:=hr.symm;have hrb:(f:Int)+P<n:=by
      have:pick%ways<ways:=Int.emod_lt_of_pos _ (by omega);omega
     have hw0:¬(ways=0):=by omega
     have htm:pick.tmod ways=(P:Int):=by rw [Int.tmod_eq_emod_of_nonneg hp0];exact hr.symm
     clear hr hrm;obtain ⟨d,hd⟩:∃d:Nat,f+P=d:=⟨_,rfl⟩;have hdn:d<n:=by omega
     have HD:=hid hd;have hfp:(f:Int)+(P:Int)=(d:Int):=by omega
     clear hd;have hwd:IntKind.i64.wrap (d:Int)=(d:Int):=(IntKind.wrap_i64 _).trans (by omega);go_wp2_with fail;have q0:=aM O2.out (d*6) _ (geg (by omega));have q1:=aM O2.out (d*6+1) _ (geg (by omega));have q2:=aM O2.out (d*6+2) _ (geg (by omega));have q3:=aM O2.out (d*6+3) _ (geg (by omega));have q4:=aM O2.out (d*6+4) _ (geg (by omega));have q5:=aM O2.out (d*6+5) _ (geg (by omega));generalize (aC es)[d*6]'_=y0 at q0;generalize (aC es)[d*6+1]'_=y1 at q1;generalize (aC es)[d*6+2]'_=y2 at q2;generalize (aC es)[d*6+3]'_=y3 at q3;generalize (aC es)[d*6+4]'_=y4 at q4;generalize (aC es)[d*6+5]'_=y5 at q5;have s0:=bQ O2.out (d*6);have s1:=bQ O2.out (d*6+1);have s2:=bQ O2.out (d*6+2);have s3:=bQ O2.out (d*6+3);have s4:=bQ O2.out (d*6+4);have s5:=bQ O2.out (d*6+5);go_still_tail 14,(by kernel_rfl);go_wp2;go_end0;refine ⟨rfl,?_,?_⟩
     ·rw [HD.out,iG es d _ (by rw [HN.out];exact hdn)];exact tQ (bu (bu (bu (bu (bu (bu O2.out _ _) _ _) _ _) _ _) _ _) _ _)
     ·first
       | (replace mL:=mL;exact ex (uW n2) (ex (Jr v2 g (d*6) _ _ _ _ _ _) (rX _ _)))
       | (replace mP:=mP;exact ex (uW n2) (ex (Js v2 g (d*6) _ _ _ _ _ _) (rX _ _)))
end
def ud (z0:Nat) (z1:Nat):Prop:=∀(b o g n base:Nat) (t:TlbM) (pt lv va asd pick:Int) (w:World) (hn:t.es.length=n) (hn1:n<=1048576) (hs4:t.sets=1∨t.sets=2∨t.sets=4∨t.sets=8) (hw1:1<=t.ways) (hw4:t.ways<=4) (hnw:(n:Int)=t.sets*t.ways) (hbl:b<w.heap.size) (hbg:b≠g)
 (c0:w.cell? (AD b o)=some (VI t.sets)) (c1:w.cell? ⟨b,o+1,none⟩=some (VI t.ways)) (c2:w.cell? ⟨b,o+2,none⟩=some (SL g n n)) (ho:w.ownsRow base z1 6 (SL g n n) n (aC t.es))
 (hl:lv=0∨lv=1∨lv=2) (hv0:0<=va) (hv1:va<=18446744073709551615) (h0:0<=pt) (h1:pt<=18446744073709551615) (hp0:0<=pick) (hp1:pick<=255),Calls Tryz.prog z0 #[PT b o,VU pt,VI lv,VU va,VU asd,VI pick] w fun x w'=>x=.returned (.tuple #[])∧
  w'.ownsRow base z1 6 (SL g n n) n (aC (t.es.set (gQ t ⟨true,lv,eg va lv,asd,bU pt 32,pt⟩+pE t ⟨true,lv,eg va lv,asd,bU pt 32,pt⟩ pick) ⟨true,lv,eg va lv,asd,bU pt 32,pt⟩))∧w.grownBy w' (some g)
theorem qV:ud 234 246∧ud 233 251:=by
 refine ⟨?_,?_⟩;have mL:=trivial
 rotate_left
 have mP:=trivial
 rotate_left
 all_goals
  intro b o g n base t pt lv va asd pick w hn hn1 hs4 hw1 hw4 hnw hbl hbg c0 c1 c2 ho hl hv0 hv1 h0 h1 hp0 hp1;have hgl:=(db ho).2.2;simp only at hgl;first
   | (replace mL:=mL;have HO:Hid (w.ownsRow base 246 6 (SL g n n) n (aC t.es)):=ho)
   | (replace mP:=mP;have HO:Hid (w.ownsRow base 251 6 (SL g n n) n (aC t.es)):=ho)
  have htb:=qh va lv hl;have HR:=hid fun w=>zR pt lv va asd w hl hv0 hv1 h0 h1;generalize eg va lv=tm at *;generalize bU pt 32=g5 at *;clear ho;first
   | (replace mL:=mL;go_enter Tryz.func234,Tryz.ntmps234)
   | (replace mP:=mP;go_enter Tryz.func233,Tryz.ntmps233)
  go_wp2_with fail;refine (HR.out w).mono ?_;rintro e v1 ⟨rfl,n1⟩;have n2:=n1.alloc n1.size (Obj.cells #[VI lv,VU tm,VU asd,.bool g5] 244);go_wp2_with fail;generalize v1.alloc (Obj.cells #[VI lv,VU tm,VU asd,.bool g5] 244)=v2 at n2 |-;first
   | (replace mL:=mL;refine (rK.1 b o g n base t ⟨true,lv,tm,asd,g5,pt⟩ pick v2 hn hn1 hs4 hw1 hw4 hnw (ltl hbl n2.size) hbg (Below.cell2 n2 c0 hbl) (Below.cell2 n2 c1 hbl) (Below.cell2 n2 c2 hbl) (aq HO.out n2) htb.1 (by simp only;omega) hp0 hp1).mono ?_)
   | (replace mP:=mP;refine (rK.2 b o g n base t ⟨true,lv,tm,asd,g5,pt⟩ pick v2 hn hn1 hs4 hw1 hw4 hnw (ltl hbl n2.size) hbg (Below.cell2 n2 c0 hbl) (Below.cell2 n2 c1 hbl) (Below.cell2 n2 c2 hbl) (aq HO.out n2) htb.1 (by simp only;omega) hp0 hp1).mono ?_)
  rintro e v3 ⟨rfl,o3,m3⟩;go_wp2;go_end0;exact ⟨rfl,o3,ex (uW n2) m3⟩
section
attribute [local go_sem ↓] Go.wp_at_zero Go.wp_at_succ
theorem Keeps.row {w w':World} {x y z g n size:Nat} {cs:List Value} (h:RowC w (some (AD g 0)) n size cs) (hk:Keeps w w' x y z) (h1:g≠x) (h2:g≠y) (h3:g≠z):RowC w' (some (AD g 0)) n size cs:=by
 obtain ⟨a,b⟩:=h;refine ⟨a,?_⟩;rcases b with b | ⟨q,o,e,hlt,hc⟩
 ·exact .inl b
 ·cases e;exact .inr ⟨g,0,rfl,ltl hlt hk.2.2.2.1,fun i v hi=>(World.cell?_of_block (hk.2.2.2.2 g hlt h1 h2 h3)).trans (hc i v hi)⟩
theorem Bt:∀(rs:List aQ) (j:Nat) (r:aQ),rs[j]?=some r->(cG rs)[j*3]?=some (VI r.1)∧(cG rs)[j*3+1]?=some (VU r.2.1)∧(cG rs)[j*3+2]?=some (VU r.2.2)
 | x::rs,0,r,h=>by
  simp at h;subst h;simp [cG,yC]
 | x::rs,j+1,r,h=>by
  have ih:=Bt rs j r (by simpa using h);have e0:(j+1)*3=j*3+3:=by omega
  rw [e0];simpa [cG,yC] using ih
theorem C5 (va satp pick:Int) (ps:List aQ) (j:Nat) (r:aQ) (p:TlbM) (h:ps[j]?=some r) (hk:aW r.2.2 r.1=1):dt va satp pick (ps.take (j+1)) p=eT (dt va satp pick (ps.take j) p) (JO r.1 va satp r.2.2) pick:=by
 rw [List.take_add_one,h,mA];simp only [Option.toList,dt];rw [if_pos hk]
theorem oX {t:TlbM} {e:EntM} {pick:Int} {p:Bool} (hv:aY t p=true) (hg:bK e p=true) (hp:0<=pick∧pick<=255):eT t e pick=⟨t.sets,t.ways,t.es.set (gQ t e+pE t e pick) e⟩:=by
 have hf:xg t e=true:=by
  simp only [xg,Bool.or_eq_true,Bool.and_eq_true];cases p
  ·exact .inr ⟨hv,hg⟩
  ·exact .inl ⟨hv,hg⟩
 unfold eT;rw [if_pos ⟨hf,hp.1,hp.2⟩]
def fC (k:KM) (kind va satp pick:Int) (r:Int × Int × Int × List aQ) (code:Int):KM:=
 if code=1 then xh ⟨k.i,k.d,dt va satp pick r.2.2.2 k.p⟩ kind (eT (fq k kind) (JO r.2.1 va satp r.2.2.1) pick) else ⟨k.i,k.d,dt va satp pick r.2.2.2 k.p⟩
end
end Go.Proofs.YtkenjknmfhoppaaGreat
