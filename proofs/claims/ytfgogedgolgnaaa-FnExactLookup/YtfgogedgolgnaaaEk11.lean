import Derived.Test.YtfgogedgolgnaaaEk08
import Derived.Test.YtfgogedgolgnaaaEk07
namespace Go.Proofs.Ytfgogedgolgnaaa
open Go.RowKit
set_option linter.unusedVariables false
set_option maxHeartbeats 6400000
set_option maxRecDepth 20000
section
attribute [local go_sem ↓] Go.wp_at_zero Go.wp_at_succ
theorem fl (b o g n:Nat) (t:TlbM) (va asid:Int) (w:World) (hn:t.es.length=n) (hn1:n<=1048576) (hv:an t false=true) (hbl:b<w.heap.size)
 (c0:w.cell? ⟨b,o,none⟩=some (.int .i64 t.sets)) (c1:w.cell? ⟨b,o+1,none⟩=some (.int .i64 t.ways)) (c2:w.cell? ⟨b,o+2,none⟩=some (.slice (some ⟨g,0,none⟩) n n)) (hr:RowC w (some ⟨g,0,none⟩) n 6 (af t.es)) (hv0:0<=va) (hv1:va<=18446744073709551615):
 Calls Try.prog 73 #[.pointer (some ⟨b,o,none⟩),.int .u64 va,.int .u64 asid] w fun e w'=>e=.returned (.tuple #[.int .i64 (bd t va asid).2.1,.bool (bd t va asid).1])∧Below w.heap.size w w':=by
 obtain ⟨hs4,hw1,hw4,hnw⟩:=dy hv;have HV:Hid (an t false=true):=hv;have HEi:Hid (aT t=true):=cG hv;have HR:Hid (RowC w (some ⟨g,0,none⟩) n 6 (af t.es)):=hr;have HN:Hid (t.es.length=n):=hn;have HNw:Hid ((n:Int)=t.sets*t.ways):=by show _=_;rw [<-hn];exact hnw
 obtain ⟨X,hX⟩:∃X,bd t va asid=X:=⟨_,rfl⟩;have HX:Hid (bd t va asid=X):=hX;rw [hX];clear hX hv hr hnw hn;obtain ⟨sets,ways,es⟩:=t;simp only at *;go_enter Try.func73,Try.ntmps73;go_wp2_with fail;go_loopw [12] (fun i wr=>∃l:Nat,l<=3∧i=.int .i64 l∧Hid (∀l':Nat,l'<l->aM va asid l' 0 es=none)∧Below w.heap.size w wr) (fun i _=>3-(intOf i).toNat)
 case atStart=>exact ⟨0,by omega,rfl,fun l' h=>absurd h (by omega),Below.refl _ _⟩
 case round=>
  obtain ⟨l,hl,rfl,HF,hb⟩:=hrel;by_cases hlt:l<3
  ·have hl3:(l:Int)=0∨(l:Int)=1∨(l:Int)=2:=by omega
   obtain ⟨tm,htm⟩:∃tm,bC va l=tm:=⟨_,rfl⟩;have htb:=ez va l hl3;rw [htm] at htb;obtain ⟨sx,hsx⟩:∃sx,tm%sets=sx:=⟨_,rfl⟩;have hsb:0<=sx∧sx<sets:=by rw [<-hsx];exact ⟨Int.emod_nonneg _ (by omega),Int.emod_lt_of_pos _ (by omega)⟩
   obtain ⟨f,hf⟩:∃f:Nat,(f:Int)=sx*ways:=⟨(sx*ways).toNat,Int.toNat_of_nonneg (Int.mul_nonneg hsb.1 (by omega))⟩;have hfn:(f:Int)+ways<=n:=by
    rw [HNw.out,hf];have:(sx+1)*ways<=sets*ways:=Int.mul_le_mul_of_nonneg_right (by omega) (by omega);rw [Int.add_mul,Int.one_mul] at this;exact this
   have HFi:Hid ((f:Int)=bC va l%sets*ways):=by show _=_;rw [htm,hsx];exact hf
   have HWm:Hid (sx*ways=(f:Int)):=hf.symm;have r0:wr.cell? ⟨b,o,none⟩=some (.int .i64 sets):=Below.cell2 hb c0 hbl;have r1:wr.cell? ⟨b,o+1,none⟩=some (.int .i64 ways):=Below.cell2 hb c1 hbl;have HTg:Hid (∀u,Calls Try.prog 94 #[.int .u64 va,.int .i64 l] u fun e w'=>e=.returned (.int .u64 tm)∧∃q,w'=u.drewN q):=fun u=>by
    have:=eN va l u hv0 hv1 hl3;rw [htm] at this;exact this
   have HSt:Hid (∀q,Calls Try.prog 70 #[.pointer (some ⟨b,o,none⟩),.int .u64 tm] (wr.drewN q) fun e w'=>e=.returned (.int .i64 sx)∧w'=wr.drewN q):=fun q=>by
    have:=cY b o sets tm (wr.drewN q) hs4 r0 htb.1 (by omega);rw [hsx] at this;exact this
   clear htm hsx;go_wp2_with fail;go_cut [9] (fun s9 wx=>s9=.int .i64 f∧∃q,wx=wr.drewN q)
   case first=>
    go_quiet (first
     | (go_at_call 94;exact Calls.quiet_of (HTg.out _))
     | (go_at_call 70;exact Calls.quiet_of_same (HSt.out _)))
    go_wp2_with fail;go_meet;exact ⟨by rw [HWm.out],nq,rfl⟩
   case rest=>
    obtain ⟨rfl,q,rfl⟩:=hcut;have hb2:Below w.heap.size w (wr.drewN q):=below_drewN hb q;generalize wr.drewN q=v2 at hb2 |-;clear r0 r1 hb HTg HSt HWm hsb hf;go_wp2_with fail;rename_i wr0;go_loopw [10] (fun i wr=>∃q:Nat,f<=q∧(q:Int)<=f+ways∧i=.int .i64 q∧Hid (∀(q':Nat) x,f<=q'->q'<q->es[q']?=some x->bn va asid l x=false)∧Below w.heap.size w wr) (fun i _=>f+4-(intOf i).toNat)
    case atStart=>exact ⟨f,Nat.le_refl _,by omega,rfl,fun q' x h h'=>absurd h' (by omega),hb2⟩
    case round=>
     obtain ⟨q,hq1,hq2,rfl,HQ,hb3⟩:=hrel;have r1:wr.cell? ⟨b,o+1,none⟩=some (.int .i64 ways):=Below.cell2 hb3 c1 hbl;have r2:wr.cell? ⟨b,o+2,none⟩=some (.slice (some ⟨g,0,none⟩) n n):=Below.cell2 hb3 c2 hbl;by_cases hqt:(q:Int)<f+ways
     ·have hqn:q<n:=by omega
      obtain ⟨⟨vv,lv,tg,asd,gl,pt⟩,hx⟩:∃x,es[q]?=some x:=⟨_,List.getElem?_eq_getElem (by rw [HN.out];exact hqn)⟩;have HXq:Hid (es[q]?=some ⟨vv,lv,tg,asd,gl,pt⟩):=hx;have CE:∀j u,j<6->(bc ⟨vv,lv,tg,asd,gl,pt⟩)[j]?=some u->wr.cell? ⟨g,q*6+j,none⟩=some u:=fun j u hj hu=>bq (HR.out.keep hb3) HN.out q _ hx j u hj hu;have g0:wr.cell? ⟨g,q*6,none⟩=some (.int .i64 lv):=CE 0 _ (by omega) rfl;have g1:wr.cell? ⟨g,q*6+1,none⟩=some (.int .u64 tg):=CE 1 _ (by omega) rfl;have g2:wr.cell? ⟨g,q*6+2,none⟩=some (.int .u64 asd):=CE 2 _ (by omega) rfl;have g3:wr.cell? ⟨g,q*6+3,none⟩=some (.bool gl):=CE 3 _ (by omega) rfl;have g4:wr.cell? ⟨g,q*6+4,none⟩=some (.bool vv):=CE 4 _ (by omega) rfl;have HNx:Hid (bn va asid l ⟨vv,lv,tg,asd,gl,pt⟩=false->∀(q':Nat) x,f<=q'->q'<q+1->es[q']?=some x->bn va asid l x=false):=fun h q' x h1 h2 h3=>by
       by_cases e:q'=q
       ·subst e;rw [HXq.out] at h3;cases h3;exact h
       ·exact HQ.out q' x h1 (by omega) h3
      clear CE hx;cases vv
      ·go_wp2_with fail;go_roundw
       case rel=>exact ⟨q+1,by omega,by omega,by go_num,HNx.out (by simp [bn,cj]),hb3⟩
       case measure=>simp [intOf];omega
      ·by_cases hlv:lv=l
       ·subst hlv;obtain ⟨fb,hfb⟩:∃fb,((tg == bC va l) && (gl || asd == asid))=fb:=⟨_,rfl⟩;have HFt:Hid (∀u,Calls Try.prog 95 #[.agg #[.int .i64 l,.int .u64 tg,.int .u64 asd,.bool gl],.int .u64 va,.int .u64 asid] u fun e w'=>e=.returned (.bool fb)∧Below u.heap.size u w'):=fun u=>by
         have:=eH l tg asd va asid gl u hl3 hv0 hv1;rw [hfb] at this;exact this
        have HHb:Hid (bn va asid l ⟨true,l,tg,asd,gl,pt⟩=fb):=by
         show _=_;rw [<-hfb];simp [bn,cj]
        clear hfb;go_wp2_with fail;refine (HFt.out wr).mono ?_;rintro e v5 ⟨rfl,n5⟩;have A5:=Below.step hb3 n5 (Nat.le_refl _);cases fb
        ·go_wp2_with fail;go_roundw
         case rel=>exact ⟨q+1,by omega,by omega,by go_num,HNx.out HHb.out,A5⟩
         case measure=>simp [intOf];omega
        ·have hx:X=(true,(q:Int),(l:Int),pt):=by
          rw [<-HX.out];have hfi:=dM (t:=⟨sets,ways,es⟩) (k:=q-f) HV.out HFi.out (by simp only;rw [show f+(q-f)=q by omega];exact HXq.out) HHb.out (fun j y hj hy=>HQ.out (f+j) y (by omega) (by omega) hy);rw [show f+(q-f)=q by omega] at hfi;exact dQ ⟨sets,ways,es⟩ va asid l q _ HEi.out (by omega) HF.out hfi
         subst hx;go_wp2_with fail;exact bodyPost_ret (v:=.tuple #[.int .i64 q,.bool true]) (by simp [results,Try.results73,go_sem]) rfl ⟨rfl,A5⟩
       ·have hlv':(lv == (l:Int))=false:=by simpa using hlv
        go_wp2_with fail;go_roundw
        case rel=>exact ⟨q+1,by omega,by omega,by go_num,HNx.out (by simp [bn,hlv]),hb3⟩
        case measure=>simp [intOf];omega
     ·have hqe:(q:Int)=f+ways:=by omega
      have hnn:aM va asid l 0 es=none:=dL (t:=⟨sets,ways,es⟩) HV.out HFi.out (fun j x hj hx=>HQ.out (f+j) x (by omega) (by simp only at hj;omega) hx);have HNn:Hid (aM va asid l 0 es=none):=hnn;clear hnn;go_wp2_with fail;go_roundw
      case rel=>exact ⟨l+1,by omega,by go_num,fun l' hl'=>by
       by_cases e:l'=l
       ·subst e;exact HNn.out
       ·exact HF.out l' (by omega),hb3⟩
      case measure=>simp [intOf];omega
  ·have hl3:l=3:=by omega
   subst hl3;have hx:X=(false,0,0,0):=by
    rw [<-HX.out];exact cS _ va asid HEi.out HF.out
   subst hx;go_wp2_with fail;exact bodyPost_ret (v:=.tuple #[.int .i64 0,.bool false]) (by simp [results,Try.results73,go_sem]) rfl ⟨rfl,hb⟩
end
theorem eS (v:Value) (t:TlbM) (va asid:Int) (w:World) (h:TlbAt w v t) (hv0:0<=va) (hv1:va<=18446744073709551615):
 Calls Try.prog 37 #[v,.int .u64 va,.int .u64 asid] w fun e w'=>cg (an t false) (bd t va asid) e∧Below w.heap.size w w':=by
 have HK:Hid (bZ t):=TlbAt.ok h;have HT:Hid (TlbAt w v t):=h;obtain ⟨a,cap,rfl,_⟩:=h;have n1:=((Below.refl w.heap.size w).alloc (Nat.le_refl _) (Obj.cells #[.int .i64 t.sets,.int .i64 t.ways,.slice a t.es.length cap] 29)).alloc (by simp) (Obj.cells #[.bool false,.int .i64 0,.int .i64 0,.int .u64 0] 35);have HT1:Hid (TlbAt ((w.alloc (Obj.cells #[.int .i64 t.sets,.int .i64 t.ways,.slice a t.es.length cap] 29)).alloc (Obj.cells #[.bool false,.int .i64 0,.int .i64 0,.int .u64 0] 35)) (.agg #[.int .i64 t.sets,.int .i64 t.ways,.slice a t.es.length cap]) t):=HT.out.keep n1;have H2:Hid (((w.alloc (Obj.cells #[.int .i64 t.sets,.int .i64 t.ways,.slice a t.es.length cap] 29)).alloc (Obj.cells #[.bool false,.int .i64 0,.int .i64 0,.int .u64 0] 35)).heap[w.heap.size+1]?=some (.cells #[.bool false,.int .i64 0,.int .i64 0,.int .u64 0] 35 (0,0))):=by
  have:=heap_alloc_new (w.alloc (Obj.cells #[.int .i64 t.sets,.int .i64 t.ways,.slice a t.es.length cap] 29)) (Obj.cells #[.bool false,.int .i64 0,.int .i64 0,.int .u64 0] 35);simp only [World.size_alloc] at this;exact this
 have l1:w.heap.size+1<((w.alloc (Obj.cells #[.int .i64 t.sets,.int .i64 t.ways,.slice a t.es.length cap] 29)).alloc (Obj.cells #[.bool false,.int .i64 0,.int .i64 0,.int .u64 0] 35)).heap.size:=by simp
 clear HT;obtain ⟨q,hq⟩:∃q,an t false=q:=⟨_,rfl⟩;have HQ:Hid (an t false=q):=hq;rw [hq];clear hq;go_enter Try.func37,Try.ntmps37;go_wp2_with fail;generalize ((w.alloc (Obj.cells #[.int .i64 t.sets,.int .i64 t.ways,.slice a t.es.length cap] 29)).alloc (Obj.cells #[.bool false,.int .i64 0,.int .i64 0,.int .u64 0] 35))=v1 at n1 HT1 H2 l1 |-;refine (bP _ t v1 HT1.out).mono ?_;rw [HQ.out];rintro e v2 ⟨hc,n2⟩;have A2:=Below.step n1 n2 (Nat.le_refl _);have K2:=ab H2 n2;have l2:w.heap.size+1<v2.heap.size:=Nat.lt_of_lt_of_le l1 n2.size;clear n1 n2 H2 HT1;obtain ⟨⟨d0,d1,d2,d3⟩,e0,e1,e2,e3⟩:=aG K2.out;cases q
 ·dsimp only [cond] at hc;subst hc;go_wp2_with fail;exact bodyPost_ret (v:=.tuple #[.agg #[.bool false,.int .i64 0,.int .i64 0,.int .u64 0],.bool false]) (by simp [results,Try.results37,go_sem,d0,d1,d2,d3,l2]) rfl ⟨rfl,by first | exact (bM A2 (by omega) _ _ _ _).alloc (by simp;omega) _ | exact bM (A2.alloc A2.size _) (by omega) _ _ _ _⟩
 ·dsimp only [cond] at hc;obtain ⟨g,rfl,ho⟩:=hc;have hg:=aw ho;obtain ⟨_,hg1,hg2⟩:=hg;simp only at hg1 hg2;have n3:=(Below.refl v2.heap.size v2).alloc (Nat.le_refl _) (Obj.cells #[.int .i64 t.sets,.int .i64 t.ways,.slice (some ⟨g,0,none⟩) t.es.length t.es.length] 78);have H3:Hid ((v2.alloc (Obj.cells #[.int .i64 t.sets,.int .i64 t.ways,.slice (some ⟨g,0,none⟩) t.es.length t.es.length] 78)).heap[v2.heap.size]?=some (.cells #[.int .i64 t.sets,.int .i64 t.ways,.slice (some ⟨g,0,none⟩) t.es.length t.es.length] 78 (0,0))):=heap_alloc_new v2 _;have l3:v2.heap.size<(v2.alloc (Obj.cells #[.int .i64 t.sets,.int .i64 t.ways,.slice (some ⟨g,0,none⟩) t.es.length t.es.length] 78)).heap.size:=by simp
  have R3:Hid (RowC (v2.alloc (Obj.cells #[.int .i64 t.sets,.int .i64 t.ways,.slice (some ⟨g,0,none⟩) t.es.length t.es.length] 78)) (some ⟨g,0,none⟩) t.es.length 6 (af t.es)):=(aU ho).keep n3;have K3:=ab K2 n3;have A3:=Below.step A2 n3 (Nat.le_refl _);clear ho n3 d0 d1 d2 d3 e0 e1 e2 e3;go_wp2_with fail;generalize v2.alloc (Obj.cells #[.int .i64 t.sets,.int .i64 t.ways,.slice (some ⟨g,0,none⟩) t.es.length t.es.length] 78)=v3 at H3 l3 R3 K3 A3 |-;obtain ⟨⟨p0,p1,p2⟩,_,_,_⟩:=aa H3.out;refine (fl v2.heap.size 0 g t.es.length t va asid v3 rfl HK.out.2.2.2 HQ.out l3 p0 p1 p2 R3.out hv0 hv1).mono ?_;obtain ⟨⟨f,i,l,pt⟩,hX⟩:∃X,bd t va asid=X:=⟨_,rfl⟩;rw [hX];have HX:Hid (bd t va asid=(f,i,l,pt)):=hX;clear hX;rintro e v4 ⟨rfl,n4⟩;have A4:=Below.step A3 n4 (Nat.le_refl _);have K4:=ab K3 n4;have H4:=ab H3 n4;have R4:Hid _:=R3.out.keep n4;have l4:v2.heap.size<v4.heap.size:=Nat.lt_of_lt_of_le l3 n4.size;clear n4 K3 H3 R3 A3 p0 p1 p2;obtain ⟨⟨d0,d1,d2,d3⟩,e0,e1,e2,e3⟩:=aG K4.out;obtain ⟨⟨p0,p1,p2⟩,_,_,_⟩:=aa H4.out;cases f
  ·have hz:(i,l,pt)=(0,0,0):=eA HX.out;simp only [Prod.mk.injEq] at hz;obtain ⟨rfl,rfl,rfl⟩:=hz;go_wp2_with fail;exact bodyPost_ret (v:=.tuple #[.agg #[.bool false,.int .i64 0,.int .i64 0,.int .u64 0],.bool true]) (by simp [results,Try.results37,go_sem,d0,d1,d2,d3]) rfl ⟨by unfold cg;rw [HX.out];rfl,bM A4 (by omega) _ _ _ _⟩
  ·obtain ⟨k,x,hx,hi,hlv,hpt,_,_⟩:=fd t va asid (by rw [HX.out]);rw [HX.out] at hi hlv hpt;simp only at hi hlv hpt;subst hi hlv hpt;have hkl:k<t.es.length:=(List.getElem?_eq_some_iff.1 hx).1;have hln:=HK.out.2.2.2;have CE:∀j u,j<6->(bc x)[j]?=some u->v4.cell? ⟨g,k*6+j,none⟩=some u:=fun j u hj hu=>bq R4.out rfl k _ hx j u hj hu;have g0:v4.cell? ⟨g,k*6,none⟩=some (.int .i64 x.level):=CE 0 _ (by omega) rfl;have g1:v4.cell? ⟨g,k*6+1,none⟩=some (.int .u64 x.tag):=CE 1 _ (by omega) rfl;have g2:v4.cell? ⟨g,k*6+2,none⟩=some (.int .u64 x.asid):=CE 2 _ (by omega) rfl;have g3:v4.cell? ⟨g,k*6+3,none⟩=some (.bool x.glob):=CE 3 _ (by omega) rfl;have g4:v4.cell? ⟨g,k*6+4,none⟩=some (.bool x.valid):=CE 4 _ (by omega) rfl;have g5:v4.cell? ⟨g,k*6+5,none⟩=some (.int .u64 x.pte):=CE 5 _ (by omega) rfl;clear CE hx R4;have m1:w.heap.size+1<v4.heap.size:=by omega
   generalize x.level=lv at *;generalize x.tag=tg at *;generalize x.asid=asd at *;generalize x.glob=gl at *;generalize x.valid=vv at *;generalize x.pte=pt at *;go_wp2_with fail;exact bodyPost_ret (v:=.tuple #[.agg #[.bool true,.int .i64 k,.int .i64 lv,.int .u64 pt],.bool true]) (by simp [results,Try.results37,go_sem,d0,d1,d2,d3,m1]) rfl ⟨by unfold cg;rw [HX.out];rfl,by first | exact (bM A4 (by omega) _ _ _ _).alloc (by simp;omega) _ | exact bM (A4.alloc A4.size _) (by omega) _ _ _ _⟩
section
attribute [local go_sem ↓] Go.wp_at_zero Go.wp_at_succ
theorem fm (b o g n:Nat) (t:TlbM) (va asid:Int) (w:World) (hn:t.es.length=n) (hn1:n<=1048576) (hv:an t true=true) (hbl:b<w.heap.size)
 (c0:w.cell? ⟨b,o,none⟩=some (.int .i64 t.sets)) (c1:w.cell? ⟨b,o+1,none⟩=some (.int .i64 t.ways)) (c2:w.cell? ⟨b,o+2,none⟩=some (.slice (some ⟨g,0,none⟩) n n)) (hr:RowC w (some ⟨g,0,none⟩) n 6 (af t.es)) (hv0:0<=va) (hv1:va<=18446744073709551615):
 Calls Try.prog 74 #[.pointer (some ⟨b,o,none⟩),.int .u64 va,.int .u64 asid] w fun e w'=>e=.returned (.tuple #[.int .i64 (bd t va asid).2.1,.bool (bd t va asid).1])∧Below w.heap.size w w':=by
 obtain ⟨hs4,hw1,hw4,hnw⟩:=dy hv;have HV:Hid (an t true=true):=hv;have HEi:Hid (aT t=true):=cG hv;have HR:Hid (RowC w (some ⟨g,0,none⟩) n 6 (af t.es)):=hr;have HN:Hid (t.es.length=n):=hn;have HNw:Hid ((n:Int)=t.sets*t.ways):=by show _=_;rw [<-hn];exact hnw
 obtain ⟨X,hX⟩:∃X,bd t va asid=X:=⟨_,rfl⟩;have HX:Hid (bd t va asid=X):=hX;rw [hX];clear hX hv hr hnw hn;obtain ⟨sets,ways,es⟩:=t;simp only at *;go_enter Try.func74,Try.ntmps74;go_wp2_with fail;go_loopw [12] (fun i wr=>∃l:Nat,l<=3∧i=.int .i64 l∧Hid (∀l':Nat,l'<l->aM va asid l' 0 es=none)∧Below w.heap.size w wr) (fun i _=>3-(intOf i).toNat)
 case atStart=>exact ⟨0,by omega,rfl,fun l' h=>absurd h (by omega),Below.refl _ _⟩
 case round=>
  obtain ⟨l,hl,rfl,HF,hb⟩:=hrel;by_cases hlt:l<3
  ·have hl3:(l:Int)=0∨(l:Int)=1∨(l:Int)=2:=by omega
   obtain ⟨tm,htm⟩:∃tm,bC va l=tm:=⟨_,rfl⟩;have htb:=ez va l hl3;rw [htm] at htb;obtain ⟨sx,hsx⟩:∃sx,tm%sets=sx:=⟨_,rfl⟩;have hsb:0<=sx∧sx<sets:=by rw [<-hsx];exact ⟨Int.emod_nonneg _ (by omega),Int.emod_lt_of_pos _ (by omega)⟩
   obtain ⟨f,hf⟩:∃f:Nat,(f:Int)=sx*ways:=⟨(sx*ways).toNat,Int.toNat_of_nonneg (Int.mul_nonneg hsb.1 (by omega))⟩;have hfn:(f:Int)+ways<=n:=by
    rw [HNw.out,hf];have:(sx+1)*ways<=sets*ways:=Int.mul_le_mul_of_nonneg_right (by omega) (by omega);rw [Int.add_mul,Int.one_mul] at this;exact this
   have HFi:Hid ((f:Int)=bC va l%sets*ways):=by show _=_;rw [htm,hsx];exact hf
   have HWm:Hid (sx*ways=(f:Int)):=hf.symm;have r0:wr.cell? ⟨b,o,none⟩=some (.int .i64 sets):=Below.cell2 hb c0 hbl;have r1:wr.cell? ⟨b,o+1,none⟩=some (.int .i64 ways):=Below.cell2 hb c1 hbl;have HTg:Hid (∀u,Calls Try.prog 94 #[.int .u64 va,.int .i64 l] u fun e w'=>e=.returned (.int .u64 tm)∧∃q,w'=u.drewN q):=fun u=>by
    have:=eN va l u hv0 hv1 hl3;rw [htm] at this;exact this
   have HSt:Hid (∀q,Calls Try.prog 68 #[.pointer (some ⟨b,o,none⟩),.int .u64 tm] (wr.drewN q) fun e w'=>e=.returned (.int .i64 sx)∧w'=wr.drewN q):=fun q=>by
    have:=cW b o sets tm (wr.drewN q) hs4 r0 htb.1 (by omega);rw [hsx] at this;exact this
   clear htm hsx;go_wp2_with fail;go_cut [9] (fun s9 wx=>s9=.int .i64 f∧∃q,wx=wr.drewN q)
   case first=>
    go_quiet (first
     | (go_at_call 94;exact Calls.quiet_of (HTg.out _))
     | (go_at_call 68;exact Calls.quiet_of_same (HSt.out _)))
    go_wp2_with fail;go_meet;exact ⟨by rw [HWm.out],nq,rfl⟩
   case rest=>
    obtain ⟨rfl,q,rfl⟩:=hcut;have hb2:Below w.heap.size w (wr.drewN q):=below_drewN hb q;generalize wr.drewN q=v2 at hb2 |-;clear r0 r1 hb HTg HSt HWm hsb hf;go_wp2_with fail;rename_i wr0;go_loopw [10] (fun i wr=>∃q:Nat,f<=q∧(q:Int)<=f+ways∧i=.int .i64 q∧Hid (∀(q':Nat) x,f<=q'->q'<q->es[q']?=some x->bn va asid l x=false)∧Below w.heap.size w wr) (fun i _=>f+4-(intOf i).toNat)
    case atStart=>exact ⟨f,Nat.le_refl _,by omega,rfl,fun q' x h h'=>absurd h' (by omega),hb2⟩
    case round=>
     obtain ⟨q,hq1,hq2,rfl,HQ,hb3⟩:=hrel;have r1:wr.cell? ⟨b,o+1,none⟩=some (.int .i64 ways):=Below.cell2 hb3 c1 hbl;have r2:wr.cell? ⟨b,o+2,none⟩=some (.slice (some ⟨g,0,none⟩) n n):=Below.cell2 hb3 c2 hbl;by_cases hqt:(q:Int)<f+ways
     ·have hqn:q<n:=by omega
      obtain ⟨⟨vv,lv,tg,asd,gl,pt⟩,hx⟩:∃x,es[q]?=some x:=⟨_,List.getElem?_eq_getElem (by rw [HN.out];exact hqn)⟩;have HXq:Hid (es[q]?=some ⟨vv,lv,tg,asd,gl,pt⟩):=hx;have CE:∀j u,j<6->(bc ⟨vv,lv,tg,asd,gl,pt⟩)[j]?=some u->wr.cell? ⟨g,q*6+j,none⟩=some u:=fun j u hj hu=>bq (HR.out.keep hb3) HN.out q _ hx j u hj hu;have g0:wr.cell? ⟨g,q*6,none⟩=some (.int .i64 lv):=CE 0 _ (by omega) rfl;have g1:wr.cell? ⟨g,q*6+1,none⟩=some (.int .u64 tg):=CE 1 _ (by omega) rfl;have g2:wr.cell? ⟨g,q*6+2,none⟩=some (.int .u64 asd):=CE 2 _ (by omega) rfl;have g3:wr.cell? ⟨g,q*6+3,none⟩=some (.bool gl):=CE 3 _ (by omega) rfl;have g4:wr.cell? ⟨g,q*6+4,none⟩=some (.bool vv):=CE 4 _ (by omega) rfl;have HNx:Hid (bn va asid l ⟨vv,lv,tg,asd,gl,pt⟩=false->∀(q':Nat) x,f<=q'->q'<q+1->es[q']?=some x->bn va asid l x=false):=fun h q' x h1 h2 h3=>by
       by_cases e:q'=q
       ·subst e;rw [HXq.out] at h3;cases h3;exact h
       ·exact HQ.out q' x h1 (by omega) h3
      clear CE hx;cases vv
      ·go_wp2_with fail;go_roundw
       case rel=>exact ⟨q+1,by omega,by omega,by go_num,HNx.out (by simp [bn,cj]),hb3⟩
       case measure=>simp [intOf];omega
      ·by_cases hlv:lv=l
       ·subst hlv;obtain ⟨fb,hfb⟩:∃fb,((tg == bC va l) && (gl || asd == asid))=fb:=⟨_,rfl⟩;have HFt:Hid (∀u,Calls Try.prog 95 #[.agg #[.int .i64 l,.int .u64 tg,.int .u64 asd,.bool gl],.int .u64 va,.int .u64 asid] u fun e w'=>e=.returned (.bool fb)∧Below u.heap.size u w'):=fun u=>by
         have:=eH l tg asd va asid gl u hl3 hv0 hv1;rw [hfb] at this;exact this
        have HHb:Hid (bn va asid l ⟨true,l,tg,asd,gl,pt⟩=fb):=by
         show _=_;rw [<-hfb];simp [bn,cj]
        clear hfb;go_wp2_with fail;refine (HFt.out wr).mono ?_;rintro e v5 ⟨rfl,n5⟩;have A5:=Below.step hb3 n5 (Nat.le_refl _);cases fb
        ·go_wp2_with fail;go_roundw
         case rel=>exact ⟨q+1,by omega,by omega,by go_num,HNx.out HHb.out,A5⟩
         case measure=>simp [intOf];omega
        ·have hx:X=(true,(q:Int),(l:Int),pt):=by
          rw [<-HX.out];have hfi:=dM (t:=⟨sets,ways,es⟩) (k:=q-f) HV.out HFi.out (by simp only;rw [show f+(q-f)=q by omega];exact HXq.out) HHb.out (fun j y hj hy=>HQ.out (f+j) y (by omega) (by omega) hy);rw [show f+(q-f)=q by omega] at hfi;exact dQ ⟨sets,ways,es⟩ va asid l q _ HEi.out (by omega) HF.out hfi
         subst hx;go_wp2_with fail;exact bodyPost_ret (v:=.tuple #[.int .i64 q,.bool true]) (by simp [results,Try.results74,go_sem]) rfl ⟨rfl,A5⟩
       ·have hlv':(lv == (l:Int))=false:=by simpa using hlv
        go_wp2_with fail;go_roundw
        case rel=>exact ⟨q+1,by omega,by omega,by go_num,HNx.out (by simp [bn,hlv]),hb3⟩
        case measure=>simp [intOf];omega
     ·have hqe:(q:Int)=f+ways:=by omega
      have hnn:aM va asid l 0 es=none:=dL (t:=⟨sets,ways,es⟩) HV.out HFi.out (fun j x hj hx=>HQ.out (f+j) x (by omega) (by simp only at hj;omega) hx);have HNn:Hid (aM va asid l 0 es=none):=hnn;clear hnn;go_wp2_with fail;go_roundw
      case rel=>exact ⟨l+1,by omega,by go_num,fun l' hl'=>by
       by_cases e:l'=l
       ·subst e;exact HNn.out
       ·exact HF.out l' (by omega),hb3⟩
      case measure=>simp [intOf];omega
  ·have hl3:l=3:=by omega
   subst hl3;have hx:X=(false,0,0,0):=by
    rw [<-HX.out];exact cS _ va asid HEi.out HF.out
   subst hx;go_wp2_with fail;exact bodyPost_ret (v:=.tuple #[.int .i64 0,.bool false]) (by simp [results,Try.results74,go_sem]) rfl ⟨rfl,hb⟩
end
theorem eJ (v:Value) (t:TlbM) (va asid:Int) (w:World) (h:TlbAt w v t) (hv0:0<=va) (hv1:va<=18446744073709551615):
 Calls Try.prog 38 #[v,.int .u64 va,.int .u64 asid] w fun e w'=>cg (an t true) (bd t va asid) e∧Below w.heap.size w w':=by
 have HK:Hid (bZ t):=TlbAt.ok h;have HT:Hid (TlbAt w v t):=h;obtain ⟨a,cap,rfl,_⟩:=h;have n1:=((Below.refl w.heap.size w).alloc (Nat.le_refl _) (Obj.cells #[.int .i64 t.sets,.int .i64 t.ways,.slice a t.es.length cap] 29)).alloc (by simp) (Obj.cells #[.bool false,.int .i64 0,.int .i64 0,.int .u64 0] 35);have HT1:Hid (TlbAt ((w.alloc (Obj.cells #[.int .i64 t.sets,.int .i64 t.ways,.slice a t.es.length cap] 29)).alloc (Obj.cells #[.bool false,.int .i64 0,.int .i64 0,.int .u64 0] 35)) (.agg #[.int .i64 t.sets,.int .i64 t.ways,.slice a t.es.length cap]) t):=HT.out.keep n1;have H2:Hid (((w.alloc (Obj.cells #[.int .i64 t.sets,.int .i64 t.ways,.slice a t.es.length cap] 29)).alloc (Obj.cells #[.bool false,.int .i64 0,.int .i64 0,.int .u64 0] 35)).heap[w.heap.size+1]?=some (.cells #[.bool false,.int .i64 0,.int .i64 0,.int .u64 0] 35 (0,0))):=by
  have:=heap_alloc_new (w.alloc (Obj.cells #[.int .i64 t.sets,.int .i64 t.ways,.slice a t.es.length cap] 29)) (Obj.cells #[.bool false,.int .i64 0,.int .i64 0,.int .u64 0] 35);simp only [World.size_alloc] at this;exact this
 have l1:w.heap.size+1<((w.alloc (Obj.cells #[.int .i64 t.sets,.int .i64 t.ways,.slice a t.es.length cap] 29)).alloc (Obj.cells #[.bool false,.int .i64 0,.int .i64 0,.int .u64 0] 35)).heap.size:=by simp
 clear HT;obtain ⟨q,hq⟩:∃q,an t true=q:=⟨_,rfl⟩;have HQ:Hid (an t true=q):=hq;rw [hq];clear hq;go_enter Try.func38,Try.ntmps38;go_wp2_with fail;generalize ((w.alloc (Obj.cells #[.int .i64 t.sets,.int .i64 t.ways,.slice a t.es.length cap] 29)).alloc (Obj.cells #[.bool false,.int .i64 0,.int .i64 0,.int .u64 0] 35))=v1 at n1 HT1 H2 l1 |-;refine (bR _ t v1 HT1.out).mono ?_;rw [HQ.out];rintro e v2 ⟨hc,n2⟩;have A2:=Below.step n1 n2 (Nat.le_refl _);have K2:=ab H2 n2;have l2:w.heap.size+1<v2.heap.size:=Nat.lt_of_lt_of_le l1 n2.size;clear n1 n2 H2 HT1;obtain ⟨⟨d0,d1,d2,d3⟩,e0,e1,e2,e3⟩:=aG K2.out;cases q
 ·dsimp only [cond] at hc;subst hc;go_wp2_with fail;exact bodyPost_ret (v:=.tuple #[.agg #[.bool false,.int .i64 0,.int .i64 0,.int .u64 0],.bool false]) (by simp [results,Try.results38,go_sem,d0,d1,d2,d3,l2]) rfl ⟨rfl,by first | exact (bM A2 (by omega) _ _ _ _).alloc (by simp;omega) _ | exact bM (A2.alloc A2.size _) (by omega) _ _ _ _⟩
 ·dsimp only [cond] at hc;obtain ⟨g,rfl,ho⟩:=hc;have hg:=aw ho;obtain ⟨_,hg1,hg2⟩:=hg;simp only at hg1 hg2;have n3:=(Below.refl v2.heap.size v2).alloc (Nat.le_refl _) (Obj.cells #[.int .i64 t.sets,.int .i64 t.ways,.slice (some ⟨g,0,none⟩) t.es.length t.es.length] 72);have H3:Hid ((v2.alloc (Obj.cells #[.int .i64 t.sets,.int .i64 t.ways,.slice (some ⟨g,0,none⟩) t.es.length t.es.length] 72)).heap[v2.heap.size]?=some (.cells #[.int .i64 t.sets,.int .i64 t.ways,.slice (some ⟨g,0,none⟩) t.es.length t.es.length] 72 (0,0))):=heap_alloc_new v2 _;have l3:v2.heap.size<(v2.alloc (Obj.cells #[.int .i64 t.sets,.int .i64 t.ways,.slice (some ⟨g,0,none⟩) t.es.length t.es.length] 72)).heap.size:=by simp
  have R3:Hid (RowC (v2.alloc (Obj.cells #[.int .i64 t.sets,.int .i64 t.ways,.slice (some ⟨g,0,none⟩) t.es.length t.es.length] 72)) (some ⟨g,0,none⟩) t.es.length 6 (af t.es)):=(aU ho).keep n3;have K3:=ab K2 n3;have A3:=Below.step A2 n3 (Nat.le_refl _);clear ho n3 d0 d1 d2 d3 e0 e1 e2 e3;go_wp2_with fail;generalize v2.alloc (Obj.cells #[.int .i64 t.sets,.int .i64 t.ways,.slice (some ⟨g,0,none⟩) t.es.length t.es.length] 72)=v3 at H3 l3 R3 K3 A3 |-;obtain ⟨⟨p0,p1,p2⟩,_,_,_⟩:=aa H3.out;refine (fm v2.heap.size 0 g t.es.length t va asid v3 rfl HK.out.2.2.2 HQ.out l3 p0 p1 p2 R3.out hv0 hv1).mono ?_;obtain ⟨⟨f,i,l,pt⟩,hX⟩:∃X,bd t va asid=X:=⟨_,rfl⟩;rw [hX];have HX:Hid (bd t va asid=(f,i,l,pt)):=hX;clear hX;rintro e v4 ⟨rfl,n4⟩;have A4:=Below.step A3 n4 (Nat.le_refl _);have K4:=ab K3 n4;have H4:=ab H3 n4;have R4:Hid _:=R3.out.keep n4;have l4:v2.heap.size<v4.heap.size:=Nat.lt_of_lt_of_le l3 n4.size;clear n4 K3 H3 R3 A3 p0 p1 p2;obtain ⟨⟨d0,d1,d2,d3⟩,e0,e1,e2,e3⟩:=aG K4.out;obtain ⟨⟨p0,p1,p2⟩,_,_,_⟩:=aa H4.out;cases f
  ·have hz:(i,l,pt)=(0,0,0):=eA HX.out;simp only [Prod.mk.injEq] at hz;obtain ⟨rfl,rfl,rfl⟩:=hz;go_wp2_with fail;exact bodyPost_ret (v:=.tuple #[.agg #[.bool false,.int .i64 0,.int .i64 0,.int .u64 0],.bool true]) (by simp [results,Try.results38,go_sem,d0,d1,d2,d3]) rfl ⟨by unfold cg;rw [HX.out];rfl,bM A4 (by omega) _ _ _ _⟩
  ·obtain ⟨k,x,hx,hi,hlv,hpt,_,_⟩:=fd t va asid (by rw [HX.out]);rw [HX.out] at hi hlv hpt;simp only at hi hlv hpt;subst hi hlv hpt;have hkl:k<t.es.length:=(List.getElem?_eq_some_iff.1 hx).1;have hln:=HK.out.2.2.2;have CE:∀j u,j<6->(bc x)[j]?=some u->v4.cell? ⟨g,k*6+j,none⟩=some u:=fun j u hj hu=>bq R4.out rfl k _ hx j u hj hu;have g0:v4.cell? ⟨g,k*6,none⟩=some (.int .i64 x.level):=CE 0 _ (by omega) rfl;have g1:v4.cell? ⟨g,k*6+1,none⟩=some (.int .u64 x.tag):=CE 1 _ (by omega) rfl;have g2:v4.cell? ⟨g,k*6+2,none⟩=some (.int .u64 x.asid):=CE 2 _ (by omega) rfl;have g3:v4.cell? ⟨g,k*6+3,none⟩=some (.bool x.glob):=CE 3 _ (by omega) rfl;have g4:v4.cell? ⟨g,k*6+4,none⟩=some (.bool x.valid):=CE 4 _ (by omega) rfl;have g5:v4.cell? ⟨g,k*6+5,none⟩=some (.int .u64 x.pte):=CE 5 _ (by omega) rfl;clear CE hx R4;have m1:w.heap.size+1<v4.heap.size:=by omega
   generalize x.level=lv at *;generalize x.tag=tg at *;generalize x.asid=asd at *;generalize x.glob=gl at *;generalize x.valid=vv at *;generalize x.pte=pt at *;go_wp2_with fail;exact bodyPost_ret (v:=.tuple #[.agg #[.bool true,.int .i64 k,.int .i64 lv,.int .u64 pt],.bool true]) (by simp [results,Try.results38,go_sem,d0,d1,d2,d3,m1]) rfl ⟨by unfold cg;rw [HX.out];rfl,by first | exact (bM A4 (by omega) _ _ _ _).alloc (by simp;omega) _ | exact bM (A4.alloc A4.size _) (by omega) _ _ _ _⟩
theorem dv (v:Value) (t:TlbM) (va asid:Int) (w:World) (h:TlbAt w v t) (hv0:0<=va) (hv1:va<=18446744073709551615):
 Calls Try.prog 14 #[v,.int .u64 va,.int .u64 asid] w fun e w'=>
  e=.returned (.agg #[.bool (bd t va asid).1,.int .i64 (bd t va asid).2.1,.int .i64 (bd t va asid).2.2.1,.int .u64 (bd t va asid).2.2.2])∧Below w.heap.size w w':=by
 have HT:Hid (TlbAt w v t):=h;obtain ⟨a,cap,rfl,_⟩:=h;have n1:=((Below.refl w.heap.size w).alloc (Nat.le_refl _) (Obj.cells #[.int .i64 t.sets,.int .i64 t.ways,.slice a t.es.length cap] 29)).alloc (by simp) (Obj.cells #[.bool false,.int .i64 0,.int .i64 0,.int .u64 0] 35);have HT1:Hid (TlbAt ((w.alloc (Obj.cells #[.int .i64 t.sets,.int .i64 t.ways,.slice a t.es.length cap] 29)).alloc (Obj.cells #[.bool false,.int .i64 0,.int .i64 0,.int .u64 0] 35)) (.agg #[.int .i64 t.sets,.int .i64 t.ways,.slice a t.es.length cap]) t):=HT.out.keep n1;have H1:Hid (((w.alloc (Obj.cells #[.int .i64 t.sets,.int .i64 t.ways,.slice a t.es.length cap] 29)).alloc (Obj.cells #[.bool false,.int .i64 0,.int .i64 0,.int .u64 0] 35)).heap[w.heap.size]?=some (.cells #[.int .i64 t.sets,.int .i64 t.ways,.slice a t.es.length cap] 29 (0,0))):=by
  show _=_;rw [heap_alloc_old _ _ (by simp)];exact heap_alloc_new w _
 have H2:Hid (((w.alloc (Obj.cells #[.int .i64 t.sets,.int .i64 t.ways,.slice a t.es.length cap] 29)).alloc (Obj.cells #[.bool false,.int .i64 0,.int .i64 0,.int .u64 0] 35)).heap[w.heap.size+1]?=some (.cells #[.bool false,.int .i64 0,.int .i64 0,.int .u64 0] 35 (0,0))):=by
  have:=heap_alloc_new (w.alloc (Obj.cells #[.int .i64 t.sets,.int .i64 t.ways,.slice a t.es.length cap] 29)) (Obj.cells #[.bool false,.int .i64 0,.int .i64 0,.int .u64 0] 35);simp only [World.size_alloc] at this;exact this
 have l1:w.heap.size+1<((w.alloc (Obj.cells #[.int .i64 t.sets,.int .i64 t.ways,.slice a t.es.length cap] 29)).alloc (Obj.cells #[.bool false,.int .i64 0,.int .i64 0,.int .u64 0] 35)).heap.size:=by simp
 clear HT;obtain ⟨q,hq⟩:∃q,an t false=q:=⟨_,rfl⟩;obtain ⟨q2,hq2⟩:∃q,an t true=q:=⟨_,rfl⟩;have HE:Hid (aT t=(q2 || q)):=by show _=_;unfold aT;rw [hq,hq2]
 obtain ⟨X,hX⟩:∃X,bd t va asid=X:=⟨_,rfl⟩;have HZ:Hid (q=false->q2=false->X=(false,0,0,0)):=fun h1 h2=>by
  rw [<-hX];unfold bd;rw [if_pos (by rw [HE.out,h1,h2];rfl)]
 have HL:Hid (∀u,TlbAt u (.agg #[.int .i64 t.sets,.int .i64 t.ways,.slice a t.es.length cap]) t->Calls Try.prog 37 #[.agg #[.int .i64 t.sets,.int .i64 t.ways,.slice a t.es.length cap],.int .u64 va,.int .u64 asid] u fun e w'=>cg q X e∧Below u.heap.size u w'):=fun u hu=>by
  have:=eS _ t va asid u hu hv0 hv1;rw [hq,hX] at this;exact this
 have HP:Hid (∀u,TlbAt u (.agg #[.int .i64 t.sets,.int .i64 t.ways,.slice a t.es.length cap]) t->Calls Try.prog 38 #[.agg #[.int .i64 t.sets,.int .i64 t.ways,.slice a t.es.length cap],.int .u64 va,.int .u64 asid] u fun e w'=>cg q2 X e∧Below u.heap.size u w'):=fun u hu=>by
  have:=eJ _ t va asid u hu hv0 hv1;rw [hq2,hX] at this;exact this
 rw [hX];clear hX hq hq2 HE;obtain ⟨f,i,l,pt⟩:=X;go_enter Try.func14,Try.ntmps14;go_wp2_with fail;generalize ((w.alloc (Obj.cells #[.int .i64 t.sets,.int .i64 t.ways,.slice a t.es.length cap] 29)).alloc (Obj.cells #[.bool false,.int .i64 0,.int .i64 0,.int .u64 0] 35))=v1 at n1 HT1 H1 H2 l1 |-;refine (HL.out v1 HT1.out).mono ?_;rintro e v2 ⟨he,n2⟩;unfold cg at he;have A2:=Below.step n1 n2 (Nat.le_refl _);have HT2:Hid (TlbAt v2 (.agg #[.int .i64 t.sets,.int .i64 t.ways,.slice a t.es.length cap]) t):=HT1.out.keep n2;have K1:=ab H1 n2;have K2:=ab H2 n2;have l2:w.heap.size+1<v2.heap.size:=Nat.lt_of_lt_of_le l1 n2.size;clear n1 n2 H1 H2 HT1 HL;obtain ⟨⟨c0,c1,c2⟩,_,_,_⟩:=aa K1.out;obtain ⟨⟨d0,d1,d2,d3⟩,e0,e1,e2,e3⟩:=aG K2.out;cases q
 ·subst he;simp only [dd,Bool.false_eq_true,if_false];have n3:=(Below.refl v2.heap.size v2).alloc (Nat.le_refl _) (Obj.cells #[.bool false,.int .i64 0,.int .i64 0,.int .u64 0] 35);have HT3:Hid (TlbAt (v2.alloc (Obj.cells #[.bool false,.int .i64 0,.int .i64 0,.int .u64 0] 35)) (.agg #[.int .i64 t.sets,.int .i64 t.ways,.slice a t.es.length cap]) t):=HT2.out.keep n3;have K3:=ab K2 n3;have A3:=Below.step A2 n3 (Nat.le_refl _);have l0:w.heap.size<v2.heap.size:=by omega
  have l3:w.heap.size+1<(v2.alloc (Obj.cells #[.bool false,.int .i64 0,.int .i64 0,.int .u64 0] 35)).heap.size:=by simp;omega
  go_wp2_with fail;generalize v2.alloc (Obj.cells #[.bool false,.int .i64 0,.int .i64 0,.int .u64 0] 35)=v3 at HT3 K3 A3 l3 |-;refine (HP.out v3 HT3.out).mono ?_;rintro e v4 ⟨he,n4⟩;unfold cg at he;have A4:=Below.step A3 n4 (Nat.le_refl _);have K4:=ab K3 n4;have l4:w.heap.size+1<v4.heap.size:=Nat.lt_of_lt_of_le l3 n4.size;clear n3 n4 HT2 HT3 K1 K2 K3 A2 A3 HP c0 c1 c2 d0 d1 d2 d3 e0 e1 e2 e3;obtain ⟨⟨d0,d1,d2,d3⟩,e0,e1,e2,e3⟩:=aG K4.out;subst he;cases q2
  ·have hz:=HZ.out (by trivial) (by trivial);simp only [Prod.mk.injEq] at hz;obtain ⟨rfl,rfl,rfl,rfl⟩:=hz;simp only [dd,Bool.false_eq_true,if_false];go_wp2_with fail;exact bodyPost_ret (v:=.agg #[.bool false,.int .i64 0,.int .i64 0,.int .u64 0]) (by simp [results,Try.results14,go_sem,d0,d1,d2,d3,l4]) rfl ⟨rfl,by first | exact (bM A4 (by omega) _ _ _ _).alloc (by simp;omega) _ | exact bM (A4.alloc A4.size _) (by omega) _ _ _ _⟩
  ·simp only [dd,if_true];go_wp2_with fail;exact bodyPost_ret (v:=.agg #[.bool f,.int .i64 i,.int .i64 l,.int .u64 pt]) (by simp [results,Try.results14,go_sem,d0,d1,d2,d3,l4]) rfl ⟨rfl,by first | exact (bM A4 (by omega) _ _ _ _).alloc (by simp;omega) _ | exact bM (A4.alloc A4.size _) (by omega) _ _ _ _⟩
 ·subst he;simp only [dd,if_true];go_wp2_with fail;exact bodyPost_ret (v:=.agg #[.bool f,.int .i64 i,.int .i64 l,.int .u64 pt]) (by simp [results,Try.results14,go_sem,d0,d1,d2,d3,l2]) rfl ⟨rfl,by first | exact (bM A2 (by omega) _ _ _ _).alloc (by simp;omega) _ | exact bM (A2.alloc A2.size _) (by omega) _ _ _ _⟩
theorem ej (sets ways:Int) (a:Option Addr) (cap:Nat) (es:List EntM) (va asid:Int) (w:World) (hr:RowC w a es.length 6 (ad es)) (he:∀e∈es,aO e)
 (hs: -9223372036854775808<=sets∧sets<=9223372036854775807) (hw: -9223372036854775808<=ways∧ways<=9223372036854775807) (hlc:es.length<=cap) (hcm:(cap:Int)<=9223372036854775807) (bv:0<=va∧va<=18446744073709551615) (ba:0<=asid∧asid<=18446744073709551615):
 Calls Try.prog 4 #[.agg #[.int .i64 sets,.int .i64 ways,.slice a es.length cap],.int .u64 va,.int .u64 asid] w fun e w'=>e=.returned (.bool true)∧Below w.heap.size w w':=by
 obtain ⟨n,hn⟩:∃n,es.length=n:=⟨_,rfl⟩;have HN:Hid (es.length=n):=hn;rw [hn] at hr hlc |-;have n1:=(Below.refl w.heap.size w).alloc (Nat.le_refl _) (Obj.cells #[.int .i64 sets,.int .i64 ways,.slice a n cap] 24);have H1:Hid ((w.alloc (Obj.cells #[.int .i64 sets,.int .i64 ways,.slice a n cap] 24)).heap[w.heap.size]?=some (.cells #[.int .i64 sets,.int .i64 ways,.slice a n cap] 24 (0,0))):=heap_alloc_new w _;have HR:Hid (RowC w a n 6 (ad es)):=hr;clear hr hn;obtain ⟨⟨f,i,l,pt⟩,hX⟩:∃X,bd ⟨sets,ways,es⟩ va asid=X:=⟨_,rfl⟩;have HSp:Hid (∀v u,TlbAt u v ⟨sets,ways,es⟩->Calls Try.prog 13 #[v,.int .u64 va,.int .u64 asid] u fun e w'=>e=.returned (.agg #[.bool f,.int .i64 i,.int .i64 l,.int .u64 pt])∧Below u.heap.size u w'):=fun v u hu=>by
  have:=dm v _ va asid u hu bv.1 bv.2;rw [hX] at this;exact this
 have HIm:Hid (∀v u,TlbAt u v ⟨sets,ways,es⟩->Calls Try.prog 14 #[v,.int .u64 va,.int .u64 asid] u fun e w'=>e=.returned (.agg #[.bool f,.int .i64 i,.int .i64 l,.int .u64 pt])∧Below u.heap.size u w'):=fun v u hu=>by
  have:=dv v _ va asid u hu bv.1 bv.2;rw [hX] at this;exact this
 clear hX;by_cases hl:n<=1048576
 ·have HK:Hid (bZ ⟨sets,ways,es⟩):=⟨he,hs,hw,by simp only;rw [HN.out];exact hl⟩;clear he;go_enter Try.func4,Try.ntmps4;go_wp2_with fail;generalize w.alloc (Obj.cells #[.int .i64 sets,.int .i64 ways,.slice a n cap] 24)=v1 at n1 H1 |-;refine (bt sets ways a n cap 1048576 v1 (by omega) (by omega) (by omega)).mono ?_;rintro e v2 ⟨rfl,n2⟩;rw [if_neg (by omega)];have A2:=Below.step n1 n2 (Nat.le_refl _);have H2:=ab H1 n2;clear n1 n2 H1;obtain ⟨⟨c0,c1,c2⟩,_,_,_⟩:=aa H2.out;go_wp2_with fail;refine (aI sets ways a n cap es v2 (HR.out.keep A2) HN.out hl).mono ?_;rintro e v3 ⟨⟨x,rfl,hx⟩,n3⟩;have T3:=TlbOwn.at hx HK.out;have A3:=Below.step A2 n3 (Nat.le_refl _);have H3:=ab H2 n3;clear c0 c1 c2 n3 H2 A2 hx;go_wp2_with fail;refine (HSp.out _ v3 T3).mono ?_;rintro e z4 ⟨rfl,m4⟩;have n4:=m4.alloc m4.size (Obj.cells #[.bool f,.int .i64 i,.int .i64 l,.int .u64 pt] 35);have W4:Hid ((z4.alloc (Obj.cells #[.bool f,.int .i64 i,.int .i64 l,.int .u64 pt] 35)).heap[z4.heap.size]?=some (.cells #[.bool f,.int .i64 i,.int .i64 l,.int .u64 pt] 35 (0,0))):=heap_alloc_new z4 _;have C4:=aa (ab H3 m4).out;have lz:w.heap.size<z4.heap.size:=(Array.getElem?_eq_some_iff.1 (ab H3 m4).out).1;have A4:=Below.step A3 n4 (Nat.le_refl _);have H4:=ab H3 n4;clear n4 m4 H3 A3 T3;obtain ⟨⟨c0,c1,c2⟩,_,_,_⟩:=C4;go_wp2_with fail;generalize z4.alloc (Obj.cells #[.bool f,.int .i64 i,.int .i64 l,.int .u64 pt] 35)=v4 at W4 A4 H4 |-;refine (aI sets ways a n cap es v4 (HR.out.keep A4) HN.out hl).mono ?_;rintro e v5 ⟨⟨x,rfl,hx⟩,n5⟩;obtain ⟨gx,cx,rfl,rx,_,lx⟩:=TlbOwn.row hx;have T5:=TlbOwn.at hx HK.out;simp only at rx T5 |-;rw [HN.out] at rx T5 |-;have RX5:Hid (RowC v5 (some ⟨gx,0,none⟩) n 6 (ad es)):=rx;have A5:=Below.step A4 n5 (Nat.le_refl _);have H5:=ab H4 n5;have W5:=ab W4 n5;clear n5 H4 A4 hx rx c0 c1 c2;go_wp2_with fail;have n6:=(Below.refl v5.heap.size v5).alloc (Nat.le_refl _) (Obj.cells #[.int .i64 sets,.int .i64 ways,.slice (some ⟨gx,0,none⟩) n cx] 29);have X6:Hid ((v5.alloc (Obj.cells #[.int .i64 sets,.int .i64 ways,.slice (some ⟨gx,0,none⟩) n cx] 29)).heap[v5.heap.size]?=some (.cells #[.int .i64 sets,.int .i64 ways,.slice (some ⟨gx,0,none⟩) n cx] 29 (0,0))):=heap_alloc_new v5 _;have H6:=ab H5 n6;have W6:=ab W5 n6;have A6:=Below.step A5 n6 (Nat.le_refl _);have T6:=T5.keep n6;have RX6:Hid _:=RowC.keep RX5.out n6;generalize v5.alloc (Obj.cells #[.int .i64 sets,.int .i64 ways,.slice (some ⟨gx,0,none⟩) n cx] 29)=v6 at n6 X6 H6 W6 A6 T6 RX6 |-;clear n6 H5 A5 T5 RX5;refine (HIm.out _ v6 T6).mono ?_;rintro e z7 ⟨rfl,m7⟩;have n7:=m7.alloc m7.size (Obj.cells #[.bool f,.int .i64 i,.int .i64 l,.int .u64 pt] 35);have G7:Hid ((z7.alloc (Obj.cells #[.bool f,.int .i64 i,.int .i64 l,.int .u64 pt] 35)).heap[z7.heap.size]?=some (.cells #[.bool f,.int .i64 i,.int .i64 l,.int .u64 pt] 35 (0,0))):=heap_alloc_new z7 _;have H7:=ab H6 n7;have X7:=ab X6 n7;have W7:=ab W6 n7;have RX7:Hid _:=RowC.keep RX6.out n7;have A7:=Below.step A6 n7 (Nat.le_refl _);have Y7:=aG (ab W6 m7).out;have ly:z4.heap.size<z7.heap.size:=(Array.getElem?_eq_some_iff.1 (ab W6 m7).out).1;clear n7 m7 H6 X6 RX6 A6 T6 W6;obtain ⟨⟨j0,j1,j2,j3⟩,_,_,_,_⟩:=Y7;go_wp2_with fail;generalize z7.alloc (Obj.cells #[.bool f,.int .i64 i,.int .i64 l,.int .u64 pt] 35)=z8 at G7 H7 X7 W7 RX7 A7 |-;refine (eQ f i l pt z8).mono ?_;rintro e v7 ⟨rfl,m8⟩;replace H7:=ab H7 m8;replace X7:=ab X7 m8;replace RX7:Hid _:=RowC.keep RX7.out m8;replace A7:=Below.step A7 m8 (Nat.le_refl _);clear m8 W7 G7 j0 j1 j2 j3;obtain ⟨⟨c0,c1,c2⟩,_,_,_⟩:=aa H7.out;obtain ⟨⟨d0,d1,d2⟩,_,_,_⟩:=aa X7.out;have D7:Below v7.heap.size v7 v7.drew:=(Below.refl _ _).drew;have A7d:=Below.step A7 D7 (Nat.le_refl _);go_wp2_with fail;go_region_held3 (fun w'=>w'.cell? ⟨w.heap.size,0,none⟩=some (.int .i64 sets)∧w'.cell? ⟨w.heap.size,1,none⟩=some (.int .i64 ways)∧w'.cell? ⟨w.heap.size,2,none⟩=some (.slice a n cap)∧w'.cell? ⟨v5.heap.size,0,none⟩=some (.int .i64 sets)∧w'.cell? ⟨v5.heap.size,1,none⟩=some (.int .i64 ways)∧w'.cell? ⟨v5.heap.size,2,none⟩=some (.slice (some ⟨gx,0,none⟩) n cx)) (go_keep)
   (first
    | (go_at_call 10;refine (aI sets ways a n cap es v7.drew (HR.out.keep A7d) HN.out hl).mono ?_;rintro e v8 ⟨⟨y,rfl,hy⟩,n8⟩;have hy':=TlbOwn.row hy;obtain ⟨gy,cy,rfl,ry,_,_⟩:=hy';(simp only at ry |-);rw [HN.out] at ry |-;have N8:=Below.step D7 n8 (Nat.le_refl _);have RX8:Hid _:=RowC.keep RX7.out N8;have RY8:Hid (RowC v8 (some ⟨gy,0,none⟩) n 6 (ad es)):=ry;have A8:=Below.step A7 N8 (Nat.le_refl _);have kk1:=aa (ab H7 N8).out;have kk2:=aa (ab X7 N8).out;obtain ⟨⟨a0,a1,a2⟩,_,_,_⟩:=kk1;obtain ⟨⟨b0,b1,b2⟩,_,_,_⟩:=kk2;clear ry hy n8)
    | (go_at_call 12;refine (aZ sets ways (some ⟨gx,0,none⟩) (some ⟨gy,0,none⟩) n cx cy es v8 RX8.out RY8.out HN.out hl).mono ?_;rintro e v9 ⟨rfl,n9⟩;have A9:=Below.step A8 n9 (Nat.le_refl _);have N9:=Below.step N8 n9 (Nat.le_refl _);have kk1:=aa (ab H7 N9).out;have kk2:=aa (ab X7 N9).out;obtain ⟨⟨a0',a1',a2'⟩,_,_,_⟩:=kk1;obtain ⟨⟨b0',b1',b2'⟩,_,_,_⟩:=kk2))
  all_goals
   go_wp2_with fail;go_ret;exact ⟨rfl,A9⟩
 ·go_enter Try.func4,Try.ntmps4;go_wp2_with fail;generalize w.alloc (Obj.cells #[.int .i64 sets,.int .i64 ways,.slice a n cap] 24)=v1 at n1 H1 |-;refine (bt sets ways a n cap 1048576 v1 (by omega) (by omega) (by omega)).mono ?_;rintro e v2 ⟨rfl,n2⟩;rw [if_pos (by omega)];have A2:=Below.step n1 n2 (Nat.le_refl _);go_wp2_with fail;go_ret;exact ⟨rfl,A2⟩
end Go.Proofs.Ytfgogedgolgnaaa
