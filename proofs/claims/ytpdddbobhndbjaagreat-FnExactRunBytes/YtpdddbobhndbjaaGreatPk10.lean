import Derived.Deep.DeepCutAuto
import Derived.Test.YtpdddbobhndbjaaGreatPk09
namespace Go.Proofs.YtpdddbobhndbjaaGreat
open Go.RowKit
set_option linter.unusedVariables false
set_option maxHeartbeats 6400000
set_option maxRecDepth 20000
section
attribute [local go_sem ↓] Go.wp_at_zero Go.wp_at_succ
theorem py {v:World} {p:Nat} {T:TypeId} {a b c d e f:Value} (h:v.heap[p]?=some (.cells #[a,b,c,d,e,f] T (0,0))):
 v.cell? ⟨p,0,none⟩=some a∧v.cell? ⟨p,1,none⟩=some b∧v.cell? ⟨p,2,none⟩=some c∧v.cell? ⟨p,3,none⟩=some d∧v.cell? ⟨p,4,none⟩=some e∧v.cell? ⟨p,5,none⟩=some f:=by
 simp [World.cell?,h]
theorem TlbOwn.drew {base:Nat} {w:World} {v:Value} {t:TlbM} (h:TlbOwn base w v t):TlbOwn base w.drew v t:=h
theorem mK (es:List EntM) (first:Nat):∀(left w k:Nat),k<left->(∀j,j<k->(es[first+(w+j)]?.getD cK).valid=true)->(es[first+(w+k)]?.getD cK).valid=false->lk es first w left=some (w+k)
 | 0,w,k,h,_,_=>by omega
 | left+1,w,0,h,h1,h2=>by
  rw [lk,if_pos (by simpa using h2)];rfl
 | left+1,w,k+1,h,h1,h2=>by
  rw [lk,if_neg (by have:=h1 0 (by omega);simp at this;rw [this];simp)];rw [mK es first left (w+1) k (by omega) (fun j hj=>by rw [show w+1+j=w+(j+1) by omega];exact h1 (j+1) (by omega)) (by rw [show w+1+k=w+(k+1) by omega];exact h2)];congr 1;omega
theorem mM (es:List EntM) (first:Nat):∀(left w:Nat),(∀j,j<left->(es[first+(w+j)]?.getD cK).valid=true)->lk es first w left=none
 | 0,w,h=>rfl
 | left+1,w,h=>by
  rw [lk,if_neg (by have:=h 0 (by omega);simp at this;rw [this];simp)];exact mM es first left (w+1) (fun j hj=>by rw [show w+1+j=w+(j+1) by omega];exact h (j+1) (by omega))
theorem kT (v:Value) (t:TlbM) (x:EntM) (pick:Int) (w:World) (h:TlbAt w v t) (hx:eU x):
 Calls Tryz.prog 120 #[v,mq x,.int .i64 pick] w fun e w'=>(∃y,e=.returned y∧TlbOwn w.heap.size w' y (dg t x pick))∧Bw w w':=by
 have HT:=hid h;have HOK:=hid (TlbAt.ok h);obtain ⟨a,cap,rfl,hr,_,_,_,hl,hlc,hcm,hnil,hsp⟩:=h;obtain ⟨sets,ways,es⟩:=t;obtain ⟨vv,lv,tg,asd,gl,pt⟩:=x;obtain ⟨n,hn⟩:∃n,es.length=n:=⟨_,rfl⟩;simp only at hr hl hlc hnil HT |-;have HN:=hid hn;rw [hn] at hr hl hlc hnil HT |-;obtain ⟨X,hX⟩:∃X,dg ⟨sets,ways,es⟩ ⟨vv,lv,tg,asd,gl,pt⟩ pick=X:=⟨_,rfl⟩;have HX:=hid hX;rw [hX];have HR0:=hid hr;obtain ⟨q1,hq1⟩:∃q,aQ ⟨sets,ways,es⟩ true=q:=⟨_,rfl⟩;obtain ⟨q2,hq2⟩:∃q,aQ ⟨sets,ways,es⟩ false=q:=⟨_,rfl⟩;obtain ⟨q3,hq3⟩:∃q,aY ⟨vv,lv,tg,asd,gl,pt⟩ true=q:=⟨_,rfl⟩;obtain ⟨q4,hq4⟩:∃q,aY ⟨vv,lv,tg,asd,gl,pt⟩ false=q:=⟨_,rfl⟩;have HFi:Hid (ki ⟨sets,ways,es⟩ ⟨vv,lv,tg,asd,gl,pt⟩=((q1 && q3) || (q2 && q4))):=by show _=_;rw [ki,hq1,hq2,hq3,hq4]
 have HQ:Hid (aQ ⟨sets,ways,es⟩ true=q1∧aQ ⟨sets,ways,es⟩ false=q2):=⟨hq1,hq2⟩;have HG:Hid (∀p w,Calls Tryz.prog 141 #[.agg #[.bool vv,.int .i64 lv,.int .u64 tg,.int .u64 asd,.bool gl,.int .u64 pt],.bool p] w fun e w'=>e=.returned (.bool (cond p q3 q4))∧Bw w w'):=fun p w=>by
  have:=kz ⟨vv,lv,tg,asd,gl,pt⟩ p w hx;cases p
  ·rw [hq4] at this;exact this
  ·rw [hq3] at this;exact this
 have HV:Hid (∀p w,TlbAt w (.agg #[.int .i64 sets,.int .i64 ways,.slice a n cap]) ⟨sets,ways,es⟩->Calls Tryz.prog 135 #[.agg #[.int .i64 sets,.int .i64 ways,.slice a n cap],.bool p] w fun e w'=>e=.returned (.bool (cond p q1 q2))∧Bw w w'):=fun p w h=>by
  have:=fp _ _ p w h;cases p
  ·rw [hq2] at this;exact this
  ·rw [hq1] at this;exact this
 unfold mq;simp only;obtain ⟨v1,Ev1,n1,H1,H2,H3,l1⟩:=al3 w #[.int .i64 sets,.int .i64 ways,.slice a n cap] #[.bool vv,.int .i64 lv,.int .u64 tg,.int .u64 asd,.bool gl,.int .u64 pt] #[.int .i64 0,.int .i64 0,.slice none 0 0] 37 121 37;have HT1:=hid (HT.out.keep n1);clear hr hnil hsp HT hn hX hq1 hq2 hq3 hq4;go_enter Tryz.func120,Tryz.ntmps120;go_wp2_with fail;rw [Ev1.out];clear Ev1;refine (hZ _ ⟨sets,ways,es⟩ v1 HT1.out).mono ?_;rintro e v2 ⟨⟨x,rfl,g,cp,rfl,o2⟩,n2⟩;simp only at o2 |-;rw [HN.out] at o2 |-;have O2:=hid o2;have hg:=bZ o2;have A2:=bst n1 n2;have HT2:=hid (HT1.out.keep n2);have K1:=ah H1 n2;have K2:=ah H2 n2;have K3:=ah H3 n2;have l2:=n2.size;obtain ⟨_,hg1,hg2⟩:=hg;simp only at hg1 hg2;clear o2 n1 n2 HT1 H1 H2 H3;go_upto_region 2 with fail;obtain ⟨v3,Ev3,n3,H4,l3⟩:=al1 v2 #[.int .i64 sets,.int .i64 ways,.slice (some ⟨g,0,none⟩) n cp] 37;rw [Ev3.out];clear Ev3;have A3:=bst A2 n3;have HT3:Hid (∀v,Bw v3 v->TlbAt v (.agg #[.int .i64 sets,.int .i64 ways,.slice a n cap]) ⟨sets,ways,es⟩):=fun v hv=>(HT2.out.keep n3).keep hv;have O3:Hid (v3.ownsRow v1.heap.size 121 6 (.slice (some ⟨g,0,none⟩) n cp) n (aR es)):=aj O2.out n3;have P1:=ah K1 n3;have P2:=ah K2 n3;have P3:=ah K3 n3;clear n3 HT2 O2 K1 K2 K3 A2;have HC:Hid (∀v,Bw v3 v->(v.cell? ⟨w.heap.size,0,none⟩=some (.int .i64 sets)∧v.cell? ⟨w.heap.size,1,none⟩=some (.int .i64 ways)∧v.cell? ⟨w.heap.size,2,none⟩=some (.slice a n cap))∧
  v.cell? ⟨w.heap.size+1,0,none⟩=some (.bool vv)∧v.cell? ⟨w.heap.size+1,1,none⟩=some (.int .i64 lv)∧v.cell? ⟨w.heap.size+1,2,none⟩=some (.int .u64 tg)∧v.cell? ⟨w.heap.size+1,3,none⟩=some (.int .u64 asd)∧v.cell? ⟨w.heap.size+1,4,none⟩=some (.bool gl)∧v.cell? ⟨w.heap.size+1,5,none⟩=some (.int .u64 pt)):=
  fun v hv=>⟨(aA (ae P1.out hv (by omega))).1,py (ae P2.out hv (by omega))⟩
 have bl:Bw v3 v3:=Below.refl _ _;obtain ⟨FB,hFB⟩:∃FB,((q1 && q3) || (q2 && q4))=FB:=⟨_,rfl⟩;go_cut [8] (fun s8 wx=>s8=.bool FB∧Bw v3 wx)
 case first=>
  obtain ⟨⟨c0,c1,c2⟩,f0,f1,f2,f3,f4,f5⟩:=HC.out v3 bl;cases q1
  ·cases q2 <;> cases q4;all_goals
    go_wp2_with (first
    | (go_at_call 135;refine (HV.out _ _ (HT3.out _ bl)).mono ?_;rintro e vz ⟨rfl,nz⟩;dsimp only [cond];replace bl:=bst bl nz;clear c0 c1 c2 f0 f1 f2 f3 f4 f5;have cc:=HC.out _ bl;obtain ⟨⟨c0,c1,c2⟩,f0,f1,f2,f3,f4,f5⟩:=cc)
    | (go_at_call 141;refine (HG.out _ _).mono ?_;rintro e vz ⟨rfl,nz⟩;dsimp only [cond];replace bl:=bst bl nz;clear c0 c1 c2 f0 f1 f2 f3 f4 f5;have cc:=HC.out _ bl;obtain ⟨⟨c0,c1,c2⟩,f0,f1,f2,f3,f4,f5⟩:=cc))
    go_meet;exact ⟨by rw [<-hFB];rfl,bl⟩
  ·cases q3
   ·cases q2 <;> cases q4;all_goals
     go_wp2_with (first
     | (go_at_call 135;refine (HV.out _ _ (HT3.out _ bl)).mono ?_;rintro e vz ⟨rfl,nz⟩;dsimp only [cond];replace bl:=bst bl nz;clear c0 c1 c2 f0 f1 f2 f3 f4 f5;have cc:=HC.out _ bl;obtain ⟨⟨c0,c1,c2⟩,f0,f1,f2,f3,f4,f5⟩:=cc)
     | (go_at_call 141;refine (HG.out _ _).mono ?_;rintro e vz ⟨rfl,nz⟩;dsimp only [cond];replace bl:=bst bl nz;clear c0 c1 c2 f0 f1 f2 f3 f4 f5;have cc:=HC.out _ bl;obtain ⟨⟨c0,c1,c2⟩,f0,f1,f2,f3,f4,f5⟩:=cc))
     go_meet;exact ⟨by rw [<-hFB];rfl,bl⟩
   ·go_wp2_with (first
    | (go_at_call 135;refine (HV.out _ _ (HT3.out _ bl)).mono ?_;rintro e vz ⟨rfl,nz⟩;dsimp only [cond];replace bl:=bst bl nz;clear c0 c1 c2 f0 f1 f2 f3 f4 f5;have cc:=HC.out _ bl;obtain ⟨⟨c0,c1,c2⟩,f0,f1,f2,f3,f4,f5⟩:=cc)
    | (go_at_call 141;refine (HG.out _ _).mono ?_;rintro e vz ⟨rfl,nz⟩;dsimp only [cond];replace bl:=bst bl nz;clear c0 c1 c2 f0 f1 f2 f3 f4 f5;have cc:=HC.out _ bl;obtain ⟨⟨c0,c1,c2⟩,f0,f1,f2,f3,f4,f5⟩:=cc))
    go_meet;exact ⟨by rw [<-hFB];rfl,bl⟩
 case rest=>
  obtain ⟨rfl,m⟩:=hcut;generalize wc=v4 at m |-;have A4:=bst A3 m;have O4:Hid (v4.ownsRow v1.heap.size 121 6 (.slice (some ⟨g,0,none⟩) n cp) n (aR es)):=aj O3.out m;have R1:=ah P1 m;have R2:=ah P2 m;have R3:=ah P3 m;have R4:=ah H4 m;have l4:v3.heap.size<=v4.heap.size:=m.size;have HFB:Hid (ki ⟨sets,ways,es⟩ ⟨vv,lv,tg,asd,gl,pt⟩=FB):=HFi.out.trans hFB;clear HFi hFB HC HT3 HG HV P1 P2 P3 H4 O3 A3 m bl;obtain ⟨⟨p0,p1,p2⟩,_,_,_⟩:=aA R4.out;obtain ⟨⟨d0,d1,d2⟩,e0,e1,e2⟩:=aA R3.out;by_cases hok:FB=true∧0<=pick∧pick<=255
  ·obtain ⟨rfl,hp0,hp1⟩:=hok;obtain ⟨pp,hvp,hgp⟩:∃pp,aQ ⟨sets,ways,es⟩ pp=true∧aY ⟨vv,lv,tg,asd,gl,pt⟩ pp=true:=by
    have:=HFB.out;simp only [ki,Bool.or_eq_true,Bool.and_eq_true] at this;rcases this with ⟨h1,h2⟩ | ⟨h1,h2⟩
    ·exact ⟨true,h1,h2⟩
    ·exact ⟨false,h1,h2⟩
   obtain ⟨hs,hw,hw',hnw⟩:=fl hvp;simp only at hs hw hw' hnw;rw [HN.out] at hnw;have htg:tg<512:=vU hgp;have htg0:0<=tg:=hx.2.1.1;have HXe:Hid (X=⟨sets,ways,es.set (eY ⟨sets,ways,es⟩ ⟨vv,lv,tg,asd,gl,pt⟩+jt ⟨sets,ways,es⟩ ⟨vv,lv,tg,asd,gl,pt⟩ pick) ⟨vv,lv,tg,asd,gl,pt⟩⟩):=by
    show _=_;rw [<-HX.out];unfold dg;rw [if_pos ⟨HFB.out,hp0,hp1⟩]
   obtain ⟨⟨c0,c1,c2⟩,_,_,_⟩:=aA R1.out;obtain ⟨f0,f1,f2,f3,f4,f5⟩:=py R2.out;have hf1:=sj (t:=⟨sets,ways,es⟩) (e:=⟨vv,lv,tg,asd,gl,pt⟩) htg0 hs hw;simp only at hf1;have HIx:=fun pk=>Dm (t:=⟨sets,ways,es⟩) (e:=⟨vv,lv,tg,asd,gl,pt⟩) (pick:=pk) hvp htg0;obtain ⟨fi,hfi⟩:∃fi,eY ⟨sets,ways,es⟩ ⟨vv,lv,tg,asd,gl,pt⟩=fi:=⟨_,rfl⟩;have HFi:Hid (eY ⟨sets,ways,es⟩ ⟨vv,lv,tg,asd,gl,pt⟩=fi):=hfi;rw [hfi] at hf1;have hfb:(fi:Int)+ways<=n:=by
    have h3:tg%sets<sets:=Int.emod_lt_of_pos _ (by omega);have h5:(tg%sets+1)*ways<=sets*ways:=Int.mul_le_mul_of_nonneg_right (by omega) (by omega);rw [Int.add_mul] at h5;omega
   have HF1:Hid ((fi:Int)=tg%sets*ways):=hf1;have HWr:Hid (wrap64 (tg%sets*ways)=(fi:Int)):=by
    show _=_;rw [<-hf1];unfold wrap64;omega
   clear hfi HIx hf1;go_upto_region 5 with fail;go_cut [9] (fun s9 wx=>s9=.int .i64 fi∧∃q,wx=v4.drewN q)
   case first=>
    rcases hs with rfl | rfl | rfl | rfl;all_goals
     go_quiet (fail);go_wp2_with fail;go_meet;exact ⟨by first | rw [HWr.out] | (rw [HF1.out] <;> simp),nq,rfl⟩
   case rest=>
    obtain ⟨rfl,qd,rfl⟩:=hcut;have A5:Bw w (v4.drewN qd):=below_drewN A4 qd;have O5:Hid ((v4.drewN qd).ownsRow v1.heap.size 121 6 (.slice (some ⟨g,0,none⟩) n cp) n (aR es)):=O4;have S1:Hid ((v4.drewN qd).heap[w.heap.size]?=_):=R1;have S2:Hid ((v4.drewN qd).heap[w.heap.size+1]?=_):=R2;have S3:Hid ((v4.drewN qd).heap[w.heap.size+1+1]?=_):=R3;have S4:Hid ((v4.drewN qd).heap[v2.heap.size]?=_):=R4;have l5:v3.heap.size<=(v4.drewN qd).heap.size:=l4;generalize v4.drewN qd=v5 at A5 O5 S1 S2 S3 S4 l5 |-;clear O4 R1 R2 R3 R4 l4 A4 c0 c1 c2 f0 f1 f2 f3 f4 f5 p0 p1 p2 d0 d1 d2 e0 e1 e2;go_wp2_with fail;go_loopw [10] (fun i wr=>∃k:Nat,(k:Int)<=ways∧i=.int .i64 k∧(∀j,j<k->(es[fi+j]?.getD cK).valid=true)∧Bw v5 wr) (fun i _=>ways.toNat-(intOf i).toNat)
    case atStart=>exact ⟨0,by omega,rfl,fun j hj=>absurd hj (by omega),Below.refl _ _⟩
    case round=>
     obtain ⟨k,hk,rfl,hall,hb⟩:=hrel;have HAll:Hid (∀j,j<k->(es[fi+j]?.getD cK).valid=true):=hall;have HO:Hid (wr.ownsRow v1.heap.size 121 6 (.slice (some ⟨g,0,none⟩) n cp) n (aR es)):=aj O5.out hb;have A6:=bst A5 hb;have lr:v3.heap.size<=wr.heap.size:=Nat.le_trans l5 hb.size;obtain ⟨⟨c0,c1,c2⟩,_,_,_⟩:=aA (ae S1.out hb (by omega));obtain ⟨f0,f1,f2,f3,f4,f5⟩:=py (ae S2.out hb (by omega));obtain ⟨⟨d0,d1,d2⟩,e0,e1,e2⟩:=aA (ae S3.out hb (by omega));obtain ⟨⟨p0,p1,p2⟩,_,_,_⟩:=aA (ae S4.out hb (by omega));clear hall;by_cases hlt:(k:Int)<ways
     ·obtain ⟨x,hx'⟩:∃x,es[fi+k]?=some x:=⟨_,List.getElem?_eq_getElem (by rw [HN.out];omega)⟩;obtain ⟨b,off,rfl,hbb⟩:∃b off,a=some ⟨b,off,none⟩∧b<w.heap.size:=by
       rcases HR0.out.2 with h | ⟨b,off,h,h2,_⟩
       ·omega
       ·exact ⟨b,off,h,h2⟩
      have CE:∀j u,j<6->(jr x)[j]?=some u->wr.cell? ⟨b,off+((fi+k)*6+j),none⟩=some u:=fun j u hj hu=>
       Below.cell2 A6 (eu HR0.out HN.out (fi+k) x hx' j u hj hu) hbb
      obtain ⟨xv,x1,x2,x3,x4,x5⟩:=x;have g0:wr.cell? ⟨b,off+(fi+k)*6,none⟩=some (.bool xv):=CE 0 _ (by omega) rfl;have g1:wr.cell? ⟨b,off+(fi+k)*6+1,none⟩=some (.int .i64 x1):=CE 1 _ (by omega) rfl;have g2:wr.cell? ⟨b,off+(fi+k)*6+2,none⟩=some (.int .u64 x2):=CE 2 _ (by omega) rfl;have g3:wr.cell? ⟨b,off+(fi+k)*6+3,none⟩=some (.int .u64 x3):=CE 3 _ (by omega) rfl;have g4:wr.cell? ⟨b,off+(fi+k)*6+4,none⟩=some (.bool x4):=CE 4 _ (by omega) rfl;have g5:wr.cell? ⟨b,off+(fi+k)*6+5,none⟩=some (.int .u64 x5):=CE 5 _ (by omega) rfl;have HXv:Hid ((es[fi+k]?.getD cK).valid=xv):=by show _=_;rw [hx'];rfl
      clear CE hx';cases xv
      ·have HXf:Hid (X=⟨sets,ways,es.set (fi+k) ⟨vv,lv,tg,asd,gl,pt⟩⟩):=by
        show _=_;rw [HXe.out,HFi.out];have:jt ⟨sets,ways,es⟩ ⟨vv,lv,tg,asd,gl,pt⟩ pick=k:=by
         unfold jt;simp only;rw [HFi.out,mK es fi ways.toNat 0 k (by omega) (fun j hj=>by rw [Nat.zero_add];exact HAll.out j hj) (by rw [Nat.zero_add];exact HXv.out)];simp
        rw [this]
       have hcl:(aR es).length=n*6:=by rw [fo,HN.out]
       have y0:=aB HO.out ((fi+k)*6) _ (List.getElem?_eq_getElem (by omega));have y1:=aB HO.out ((fi+k)*6+1) _ (List.getElem?_eq_getElem (by omega));have y2:=aB HO.out ((fi+k)*6+2) _ (List.getElem?_eq_getElem (by omega));have y3:=aB HO.out ((fi+k)*6+3) _ (List.getElem?_eq_getElem (by omega));have y4:=aB HO.out ((fi+k)*6+4) _ (List.getElem?_eq_getElem (by omega));have y5:=aB HO.out ((fi+k)*6+5) _ (List.getElem?_eq_getElem (by omega));generalize (aR es)[(fi+k)*6]'_=z0 at y0;generalize (aR es)[(fi+k)*6+1]'_=z1 at y1;generalize (aR es)[(fi+k)*6+2]'_=z2 at y2;generalize (aR es)[(fi+k)*6+3]'_=z3 at y3;generalize (aR es)[(fi+k)*6+4]'_=z4 at y4;generalize (aR es)[(fi+k)*6+5]'_=z5 at y5;have r0:=aO HO.out ((fi+k)*6);have r1:=aO HO.out ((fi+k)*6+1);have r2:=aO HO.out ((fi+k)*6+2);have r3:=aO HO.out ((fi+k)*6+3);have r4:=aO HO.out ((fi+k)*6+4);have r5:=aO HO.out ((fi+k)*6+5);clear hcl;go_wp2_with fail;refine bodyPost_ret (v:=.agg #[.int .i64 sets,.int .i64 ways,.slice (some ⟨g,0,none⟩) n cp]) (by simp [results,Tryz.results120,go_sem,d0,d1,d2]) rfl ⟨⟨_,rfl,?_⟩,fU (A6.grown (ak (ak (ak (ak (ak (ak (aq wr (some g)) _ _) _ _) _ _) _ _) _ _) _ _) (by have:=A6.size;omega) (fun q hq=>by cases hq;omega)) (by omega) _ _ _⟩;rw [HXf.out];refine ⟨g,cp,by simp only [List.length_set];rw [HN.out],?_⟩;simp only [List.length_set];rw [HN.out,jI es (fi+k) _ (by rw [HN.out];omega)];exact aP (aI (aF (aF (aF (aF (aF (aF HO.out _ _) _ _) _ _) _ _) _ _) _ _) (gb3 _ (w.heap.size+1+1) _ _ _) (by omega)) (by omega)
      ·go_wp2_with fail;go_roundw
       case rel=>exact ⟨k+1,by omega,by go_num,fun j hj=>by
        by_cases e:j=k
        ·subst e;exact HXv.out
        ·exact HAll.out j (by omega),hb⟩
       case measure=>simp [intOf];omega
     ·have hkw:(k:Int)=ways:=by omega
      obtain ⟨pk,hpk⟩:=Int.eq_ofNat_of_zero_le (Int.emod_nonneg pick (show ways≠0 by omega));have hpk':(pk:Int)<ways:=by rw [<-hpk];exact Int.emod_lt_of_pos _ (by omega)
      have HXf:Hid (X=⟨sets,ways,es.set (fi+pk) ⟨vv,lv,tg,asd,gl,pt⟩⟩):=by
       show _=_;rw [HXe.out,HFi.out];have:jt ⟨sets,ways,es⟩ ⟨vv,lv,tg,asd,gl,pt⟩ pick=pk:=by
        unfold jt;simp only;rw [HFi.out,mM es fi ways.toNat 0 (fun j hj=>by rw [Nat.zero_add];exact HAll.out j (by omega)),hpk];simp
       rw [this]
      have hcl:(aR es).length=n*6:=by rw [fo,HN.out]
      have y0:=aB HO.out ((fi+pk)*6) _ (List.getElem?_eq_getElem (by omega));have y1:=aB HO.out ((fi+pk)*6+1) _ (List.getElem?_eq_getElem (by omega));have y2:=aB HO.out ((fi+pk)*6+2) _ (List.getElem?_eq_getElem (by omega));have y3:=aB HO.out ((fi+pk)*6+3) _ (List.getElem?_eq_getElem (by omega));have y4:=aB HO.out ((fi+pk)*6+4) _ (List.getElem?_eq_getElem (by omega));have y5:=aB HO.out ((fi+pk)*6+5) _ (List.getElem?_eq_getElem (by omega));generalize (aR es)[(fi+pk)*6]'_=z0 at y0;generalize (aR es)[(fi+pk)*6+1]'_=z1 at y1;generalize (aR es)[(fi+pk)*6+2]'_=z2 at y2;generalize (aR es)[(fi+pk)*6+3]'_=z3 at y3;generalize (aR es)[(fi+pk)*6+4]'_=z4 at y4;generalize (aR es)[(fi+pk)*6+5]'_=z5 at y5;have r0:=aO HO.out ((fi+pk)*6);have r1:=aO HO.out ((fi+pk)*6+1);have r2:=aO HO.out ((fi+pk)*6+2);have r3:=aO HO.out ((fi+pk)*6+3);have r4:=aO HO.out ((fi+pk)*6+4);have r5:=aO HO.out ((fi+pk)*6+5);clear hcl;have hrem:pick.tmod ways=(pk:Int):=by rw [Int.tmod_eq_emod_of_nonneg hp0];exact hpk
      have hwz:ways≠0:=by omega
      clear hpk;have i1:g≠w.heap.size:=by omega
      have i2:w.heap.size≠g:=by omega
      have i3:g≠w.heap.size+1:=by omega
      have i4:w.heap.size+1≠g:=by omega
      have i5:g≠v2.heap.size:=by omega
      have i6:v2.heap.size≠g:=by omega
      go_wp2_with fail;have t1:IntKind.i64.wrap ((fi:Int)+(pk:Int))=(fi:Int)+pk:=by
       rw [IntKind.wrap_i64];omega
      have t2:(0:Int)<=(fi:Int)+pk:=by omega
      have t3:(fi:Int)+pk<n:=by omega
      go_region_held (fun w'=>w'.cell? ⟨v2.heap.size,2,none⟩=some (.slice (some ⟨g,0,none⟩) n cp)∧w'.cell? ⟨w.heap.size,1,none⟩=some (.int .i64 ways)∧w'.cell? ⟨w.heap.size+1,0,none⟩=some (.bool vv)∧w'.cell? ⟨w.heap.size+1,1,none⟩=some (.int .i64 lv)∧w'.cell? ⟨w.heap.size+1,2,none⟩=some (.int .u64 tg)∧w'.cell? ⟨w.heap.size+1,3,none⟩=some (.int .u64 asd)∧w'.cell? ⟨w.heap.size+1,4,none⟩=some (.bool gl)∧w'.cell? ⟨w.heap.size+1,5,none⟩=some (.int .u64 pt)) (go_keep) (fail);go_wp2_with fail;refine bodyPost_ret (v:=.agg #[.int .i64 sets,.int .i64 ways,.slice (some ⟨g,0,none⟩) n cp]) (by simp [results,Tryz.results120,go_sem,d0,d1,d2]) rfl ⟨⟨_,rfl,?_⟩,(fU (A6.grown (ak (ak (ak (ak (ak (ak (aq wr (some g)) _ _) _ _) _ _) _ _) _ _) _ _) (by have:=A6.size;omega) (fun q hq=>by cases hq;omega)) (by omega) _ _ _).drew⟩;rw [HXf.out];refine ⟨g,cp,by simp only [List.length_set];rw [HN.out],?_⟩;simp only [List.length_set];rw [HN.out,jI es (fi+pk) _ (by rw [HN.out];omega)];exact aP (oy (aI (aF (aF (aF (aF (aF (aF HO.out _ _) _ _) _ _) _ _) _ _) _ _) (gb3 _ (w.heap.size+1+1) _ _ _) (by omega))) (by omega)
  ·have hXt:X=⟨sets,ways,es⟩:=by
    rw [<-HX.out];unfold dg;rw [if_neg (by rw [HFB.out];exact hok)]
   have fin:∀v5,v5=v4->TlbOwn w.heap.size (((v5.setCell ⟨w.heap.size+1+1,0,none⟩ (.int .i64 sets)).setCell ⟨w.heap.size+1+1,1,none⟩ (.int .i64 ways)).setCell ⟨w.heap.size+1+1,2,none⟩ (.slice (some ⟨g,0,none⟩) n cp)) (.agg #[.int .i64 sets,.int .i64 ways,.slice (some ⟨g,0,none⟩) n cp]) X:=by
    rintro _ rfl;rw [hXt];refine ⟨g,cp,by rw [HN.out],?_⟩;simp only;rw [HN.out];exact aP (aI O4.out (gb3 _ (w.heap.size+1+1) _ _ _) (by omega)) (by omega)
   have HFin:Hid _:=fin;clear fin hXt;cases FB
   ·go_wp2_with fail;exact bodyPost_ret (v:=.agg #[.int .i64 sets,.int .i64 ways,.slice (some ⟨g,0,none⟩) n cp]) (by simp [results,Tryz.results120,go_sem,d0,d1,d2]) rfl ⟨⟨_,rfl,(by first | exact HFin.out _ rfl | exact TlbOwn.drew (HFin.out _ rfl))⟩,(by first | exact fU A4 (by omega) _ _ _ | exact (fU A4 (by omega) _ _ _).drew)⟩
   ·by_cases hpn:pick<0
    ·go_wp2_with fail;exact bodyPost_ret (v:=.agg #[.int .i64 sets,.int .i64 ways,.slice (some ⟨g,0,none⟩) n cp]) (by simp [results,Tryz.results120,go_sem,d0,d1,d2]) rfl ⟨⟨_,rfl,(by first | exact HFin.out _ rfl | exact TlbOwn.drew (HFin.out _ rfl))⟩,(by first | exact fU A4 (by omega) _ _ _ | exact (fU A4 (by omega) _ _ _).drew)⟩
    ·have hpg:255<pick:=by
      have:=hok;simp at this;omega
     go_wp2_with fail;exact bodyPost_ret (v:=.agg #[.int .i64 sets,.int .i64 ways,.slice (some ⟨g,0,none⟩) n cp]) (by simp [results,Tryz.results120,go_sem,d0,d1,d2]) rfl ⟨⟨_,rfl,(by first | exact HFin.out _ rfl | exact TlbOwn.drew (HFin.out _ rfl))⟩,(by first | exact fU A4 (by omega) _ _ _ | exact (fU A4 (by omega) _ _ _).drew)⟩
end
section
attribute [local go_sem ↓] Go.wp_at_zero Go.wp_at_succ
theorem cT {v:World} {p:Nat} {T:TypeId} {a b c d e f g h i:Value} (hh:v.heap[p]?=some (.cells #[a,b,c,d,e,f,g,h,i] T (0,0))):
 v.cell? ⟨p,0,none⟩=some a∧v.cell? ⟨p,1,none⟩=some b∧v.cell? ⟨p,2,none⟩=some c∧v.cell? ⟨p,3,none⟩=some d∧v.cell? ⟨p,4,none⟩=some e∧v.cell? ⟨p,5,none⟩=some f∧v.cell? ⟨p,6,none⟩=some g∧v.cell? ⟨p,7,none⟩=some h∧v.cell? ⟨p,8,none⟩=some i:=by
 simp [World.cell?,hh]
theorem DG {B:Nat} {a w:World} {g:Nat} (h:Below B a w) (hg:B<=g) (x y z u v t:Value):Below B a ((((((w.setCell ⟨g,0,none⟩ x).setCell ⟨g,1,none⟩ y).setCell ⟨g,2,none⟩ z).setCell ⟨g,3,none⟩ u).setCell ⟨g,4,none⟩ v).setCell ⟨g,5,none⟩ t):=
 (((fU h hg x y z).setCell (p:=⟨g,3,none⟩) hg u).setCell (p:=⟨g,4,none⟩) hg v).setCell (p:=⟨g,5,none⟩) hg t
theorem Dj {B:Nat} {a w:World} {g:Nat} (h:Below B a w) (hg:B<=g) (x y z u v t p q r:Value):Below B a (((((((((w.setCell ⟨g,0,none⟩ x).setCell ⟨g,1,none⟩ y).setCell ⟨g,2,none⟩ z).setCell ⟨g,3,none⟩ u).setCell ⟨g,4,none⟩ v).setCell ⟨g,5,none⟩ t).setCell ⟨g,6,none⟩ p).setCell ⟨g,7,none⟩ q).setCell ⟨g,8,none⟩ r):=
 (((DG h hg x y z u v t).setCell (p:=⟨g,6,none⟩) hg p).setCell (p:=⟨g,7,none⟩) hg q).setCell (p:=⟨g,8,none⟩) hg r
theorem gb9 (w:World) (g:Nat) (x y z u v t p q r:Value):w.grownBy (((((((((w.setCell ⟨g,0,none⟩ x).setCell ⟨g,1,none⟩ y).setCell ⟨g,2,none⟩ z).setCell ⟨g,3,none⟩ u).setCell ⟨g,4,none⟩ v).setCell ⟨g,5,none⟩ t).setCell ⟨g,6,none⟩ p).setCell ⟨g,7,none⟩ q).setCell ⟨g,8,none⟩ r) (some g):=
 ak (ak (ak (ak (ak (ak (ak (ak (ak (aq w (some g)) 0 x) 1 y) 2 z) 3 u) 4 v) 5 t) 6 p) 7 q) 8 r
theorem tJ {v:World} {p:Nat} {T:TypeId} {cs:Array Value} (hh:v.heap[p]?=some (.cells cs T (0,0))) (i:Nat):v.frozen? ⟨p,i,none⟩=false:=by
 simp [World.frozen?,hh]
def KAt (w:World) (v:Value) (k:KM):Prop:=
 ∃a1 c1 a2 c2 a3 c3,v=.agg #[.int .i64 k.i.sets,.int .i64 k.i.ways,.slice a1 k.i.es.length c1,.int .i64 k.d.sets,.int .i64 k.d.ways,.slice a2 k.d.es.length c2,.int .i64 k.p.sets,.int .i64 k.p.ways,.slice a3 k.p.es.length c3]∧
  TlbAt w (.agg #[.int .i64 k.i.sets,.int .i64 k.i.ways,.slice a1 k.i.es.length c1]) k.i∧TlbAt w (.agg #[.int .i64 k.d.sets,.int .i64 k.d.ways,.slice a2 k.d.es.length c2]) k.d∧TlbAt w (.agg #[.int .i64 k.p.sets,.int .i64 k.p.ways,.slice a3 k.p.es.length c3]) k.p
theorem KAt.keep {w w':World} {v:Value} {k:KM} (h:KAt w v k) (hb:Bw w w'):KAt w' v k:=by
 obtain ⟨a1,c1,a2,c2,a3,c3,rfl,h1,h2,h3⟩:=h;exact ⟨a1,c1,a2,c2,a3,c3,rfl,h1.keep hb,h2.keep hb,h3.keep hb⟩
theorem eN (v:Value) (k:KM) (w:World) (h:KAt w v k):
 Calls Tryz.prog 111 #[v] w fun e w'=>e=.returned (.bool (bW k))∧Bw w w':=by
 obtain ⟨a1,c1,a2,c2,a3,c3,rfl,t1,t2,t3⟩:=h;obtain ⟨q1,hq1⟩:∃q,aQ k.i false=q:=⟨_,rfl⟩;obtain ⟨q2,hq2⟩:∃q,aQ k.d false=q:=⟨_,rfl⟩;obtain ⟨q3,hq3⟩:∃q,aQ k.p true=q:=⟨_,rfl⟩;unfold bW;rw [hq1,hq2,hq3];have n1:=(Below.refl w.heap.size w).alloc nle (Obj.cells #[.int .i64 k.i.sets,.int .i64 k.i.ways,.slice a1 k.i.es.length c1,.int .i64 k.d.sets,.int .i64 k.d.ways,.slice a2 k.d.es.length c2,.int .i64 k.p.sets,.int .i64 k.p.ways,.slice a3 k.p.es.length c3] 39);have HV1:Hid (∀v,Bw w v->Calls Tryz.prog 135 #[.agg #[.int .i64 k.i.sets,.int .i64 k.i.ways,.slice a1 k.i.es.length c1],.bool false] v fun e w'=>e=.returned (.bool q1)∧Bw v w'):=fun v hv=>by
  have:=fp _ _ false v (t1.keep hv);rw [hq1] at this;exact this
 have HV2:Hid (∀v,Bw w v->Calls Tryz.prog 135 #[.agg #[.int .i64 k.d.sets,.int .i64 k.d.ways,.slice a2 k.d.es.length c2],.bool false] v fun e w'=>e=.returned (.bool q2)∧Bw v w'):=fun v hv=>by
  have:=fp _ _ false v (t2.keep hv);rw [hq2] at this;exact this
 have HV3:Hid (∀v,Bw w v->Calls Tryz.prog 135 #[.agg #[.int .i64 k.p.sets,.int .i64 k.p.ways,.slice a3 k.p.es.length c3],.bool true] v fun e w'=>e=.returned (.bool q3)∧Bw v w'):=fun v hv=>by
  have:=fp _ _ true v (t3.keep hv);rw [hq3] at this;exact this
 have H1:Hid (∀v,Below (w.heap.size+1) (w.alloc (Obj.cells #[.int .i64 k.i.sets,.int .i64 k.i.ways,.slice a1 k.i.es.length c1,.int .i64 k.d.sets,.int .i64 k.d.ways,.slice a2 k.d.es.length c2,.int .i64 k.p.sets,.int .i64 k.p.ways,.slice a3 k.p.es.length c3] 39)) v->v.heap[w.heap.size]?=some (.cells #[.int .i64 k.i.sets,.int .i64 k.i.ways,.slice a1 k.i.es.length c1,.int .i64 k.d.sets,.int .i64 k.d.ways,.slice a2 k.d.es.length c2,.int .i64 k.p.sets,.int .i64 k.p.ways,.slice a3 k.p.es.length c3] 39 (0,0))):=
  fun v hv=>(hv.block w.heap.size (by omega)).trans (heap_alloc_new w _)
 clear t1 t2 t3 hq1 hq2 hq3;generalize k.i.sets=s1 at *;generalize k.i.ways=w1 at *;generalize k.i.es.length=m1 at *;generalize k.d.sets=s2 at *;generalize k.d.ways=w2 at *;generalize k.d.es.length=m2 at *;generalize k.p.sets=s3 at *;generalize k.p.ways=w3 at *;generalize k.p.es.length=m3 at *;cases q1
 ·go_enter Tryz.func111,Tryz.ntmps111;go_wp2_with fail;refine (HV1.out _ n1).mono ?_;rintro e v2 ⟨rfl,n2⟩;have n12:=bst n1 n2;go_wp2_with fail;go_ret;exact ⟨rfl,n12⟩
 ·go_enter Tryz.func111,Tryz.ntmps111;go_wp2_with fail;refine (HV1.out _ n1).mono ?_;rintro e v2 ⟨rfl,n2⟩;have n12:=bst n1 n2;have K2:=cT (H1.out v2 (n2.mono (by simp)));obtain ⟨x0,x1,x2,x3,x4,x5,x6,x7,x8⟩:=K2;cases q2
  ·go_wp2_with fail;refine (HV2.out _ n12).mono ?_;rintro e v3 ⟨rfl,n3⟩;have n13:=bst n12 n3;go_wp2_with fail;go_ret;exact ⟨rfl,n13⟩
  ·go_wp2_with fail;refine (HV2.out _ n12).mono ?_;rintro e v3 ⟨rfl,n3⟩;have n13:=bst n12 n3;have n23:=bst n2 n3;clear x0 x1 x2 x3 x4 x5 x6 x7 x8;have K3:=cT (H1.out v3 (n23.mono (by simp)));obtain ⟨x0,x1,x2,x3,x4,x5,x6,x7,x8⟩:=K3;go_wp2_with fail;refine (HV3.out _ n13).mono ?_;rintro e v4 ⟨rfl,n4⟩;have n14:=bst n13 n4;go_wp2_with fail;go_ret;exact ⟨by simp,n14⟩
theorem pY (level va satp pte:Int) (w:World) (hl0:0<=level) (hl2:level<=2) (hv0:0<=va) (hv1:va<=18446744073709551615) (hs0:0<=satp) (hs1:satp<=18446744073709551615) (hp0:0<=pte) (hp1:pte<=18446744073709551615):
 Calls Tryz.prog 121 #[.int .i64 level,.int .u64 va,.int .u64 satp,.int .u64 pte] w fun e w'=>e=.returned (mq (eH level va satp pte))∧Bw w w':=by
 unfold mq eH;simp only;have n1:=(Below.refl w.heap.size w).alloc nle (Obj.cells #[.bool false,.int .i64 0,.int .u64 0,.int .u64 0,.bool false,.int .u64 0] 121);go_enter Tryz.func121,Tryz.ntmps121;go_wp2_with (first
  | (go_at_call 142;refine (rR va level _ hv0 hv1 hl0 hl2).mono ?_;rintro e w' ⟨rfl,nq,rfl⟩)
  | (go_at_call 115;refine (pz satp _ hs0 hs1).mono ?_;rintro e w' ⟨rfl,nr,rfl⟩)
  | (go_at_call 92;refine (bQ pte 5 32 _ hp0 hp1 (by omega) (by omega) rfl).mono ?_;rintro e w' ⟨rfl,ns,rfl⟩))
 exact bodyPost_ret (v:=.agg #[.bool true,.int .i64 level,.int .u64 (fJ va level),.int .u64 (aM satp),.bool (bR pte 32),.int .u64 pte]) (by simp [results,Tryz.results121,go_sem]) rfl ⟨rfl,DG (below_drewN n1 _) nle _ _ _ _ _ _⟩
def KOwn (base:Nat) (w:World) (v:Value) (k:KM):Prop:=
 ∃g1 c1 g2 c2 g3 c3,v=.agg #[.int .i64 k.i.sets,.int .i64 k.i.ways,.slice (some ⟨g1,0,none⟩) k.i.es.length c1,.int .i64 k.d.sets,.int .i64 k.d.ways,.slice (some ⟨g2,0,none⟩) k.d.es.length c2,.int .i64 k.p.sets,.int .i64 k.p.ways,.slice (some ⟨g3,0,none⟩) k.p.es.length c3]∧
  w.ownsRow base 121 6 (.slice (some ⟨g1,0,none⟩) k.i.es.length c1) k.i.es.length (aR k.i.es)∧w.ownsRow base 121 6 (.slice (some ⟨g2,0,none⟩) k.d.es.length c2) k.d.es.length (aR k.d.es)∧w.ownsRow base 121 6 (.slice (some ⟨g3,0,none⟩) k.p.es.length c3) k.p.es.length (aR k.p.es)
theorem gH (v:Value) (k:KM) (w:World) (h:KAt w v k):
 Calls Tryz.prog 60 #[v] w fun e w'=>(∃x,e=.returned x∧KOwn w.heap.size w' x k)∧Bw w w':=by
 obtain ⟨a1,c1,a2,c2,a3,c3,rfl,t1,t2,t3⟩:=h;have HL1:=hid fun v (hv:Bw w v)=>hZ _ _ v (t1.keep hv);have HL2:=hid fun v (hv:Bw w v)=>hZ _ _ v (t2.keep hv);have HL3:=hid fun v (hv:Bw w v)=>hZ _ _ v (t3.keep hv);clear t1 t2 t3;unfold TlbOwn at HL1 HL2 HL3;unfold KOwn;generalize k.i.es=e1 at *;generalize k.d.es=e2 at *;generalize k.p.es=e3 at *;generalize k.i.sets=s1 at *;generalize k.i.ways=w1 at *;generalize k.d.sets=s2 at *;generalize k.d.ways=w2 at *;generalize k.p.sets=s3 at *;generalize k.p.ways=w3 at *;obtain ⟨m1,hm1⟩:∃m,e1.length=m:=⟨_,rfl⟩;obtain ⟨m2,hm2⟩:∃m,e2.length=m:=⟨_,rfl⟩;obtain ⟨m3,hm3⟩:∃m,e3.length=m:=⟨_,rfl⟩;rw [hm1] at HL1 |-;rw [hm2] at HL2 |-;rw [hm3] at HL3 |-;clear hm1 hm2 hm3;generalize aR e1=q1 at *;generalize aR e2=q2 at *;generalize aR e3=q3 at *;obtain ⟨v1,Ev1,n1,H1,H2,l1⟩:=al2 w #[.int .i64 s1,.int .i64 w1,.slice a1 m1 c1,.int .i64 s2,.int .i64 w2,.slice a2 m2 c2,.int .i64 s3,.int .i64 w3,.slice a3 m3 c3] #[.int .i64 0,.int .i64 0,.slice none 0 0,.int .i64 0,.int .i64 0,.slice none 0 0,.int .i64 0,.int .i64 0,.slice none 0 0] 39 39;go_enter Tryz.func60,Tryz.ntmps60;go_wp2_with fail;rw [Ev1.out];clear Ev1;have HC:=hid fun v (hv:Bw v1 v)=>cT (ae H1.out hv (by omega));obtain ⟨b0,b1,b2,b3,b4,b5,b6,b7,b8⟩:=HC.out v1 (Below.refl _ _);have i1:w.heap.size+1≠w.heap.size:=by omega
 have i2:w.heap.size≠w.heap.size+1:=by omega
 go_region_held3 (fun w'=>w'.cell? ⟨w.heap.size,0,none⟩=some (.int .i64 s1)∧w'.cell? ⟨w.heap.size,1,none⟩=some (.int .i64 w1)∧w'.cell? ⟨w.heap.size,2,none⟩=some (.slice a1 m1 c1)∧w'.cell? ⟨w.heap.size,3,none⟩=some (.int .i64 s2)∧w'.cell? ⟨w.heap.size,4,none⟩=some (.int .i64 w2)∧w'.cell? ⟨w.heap.size,5,none⟩=some (.slice a2 m2 c2)∧w'.cell? ⟨w.heap.size,6,none⟩=some (.int .i64 s3)∧w'.cell? ⟨w.heap.size,7,none⟩=some (.int .i64 w3)∧w'.cell? ⟨w.heap.size,8,none⟩=some (.slice a3 m3 c3)) (go_keep)
  (first
   | (go_at_call_of 61 (Value.agg #[Value.int IntKind.i64 s1,Value.int IntKind.i64 w1,Value.slice a1 m1 c1]);refine (HL1.out _ (bst n1 (Below.refl v1.heap.size v1).drew)).mono ?_;rintro e y1 ⟨⟨x1,rfl,g1,d1,rfl,o1⟩,n1'⟩;have my1:Bw v1 y1:=bst (Below.refl v1.heap.size v1).drew n1';have kk:=HC.out y1 my1;obtain ⟨z10,z11,z12,z13,z14,z15,z16,z17,z18⟩:=kk;have OO1:Hid _:=o1;clear o1)
   | (go_at_call_of 61 (Value.agg #[Value.int IntKind.i64 s2,Value.int IntKind.i64 w2,Value.slice a2 m2 c2]);refine (HL2.out _ (bst n1 my1)).mono ?_;rintro e y2 ⟨⟨x2,rfl,g2,d2,rfl,o2⟩,n2'⟩;have my2:Bw v1 y2:=bst my1 n2';have kk:=HC.out y2 my2;obtain ⟨z20,z21,z22,z23,z24,z25,z26,z27,z28⟩:=kk;have OO2:Hid _:=o2;clear o2;have OP1:Hid _:=aj OO1.out n2';clear OO1)
   | (go_at_call_of 61 (Value.agg #[Value.int IntKind.i64 s3,Value.int IntKind.i64 w3,Value.slice a3 m3 c3]);refine (HL3.out _ (bst n1 my2)).mono ?_;rintro e y3 ⟨⟨x3,rfl,g3,d3,rfl,o3⟩,n3'⟩;have my3:Bw v1 y3:=bst my2 n3';have kk:=HC.out y3 my3;obtain ⟨z30,z31,z32,z33,z34,z35,z36,z37,z38⟩:=kk;have OO3:Hid _:=o3;clear o3;have OP1':Hid _:=aj OP1.out n3';have OP2:Hid _:=aj OO2.out n3';clear OP1 OO2;have F3:=ah H2 my3;have ff:=tJ F3.out;have f0:=ff 0;have f1:=ff 1;have f2:=ff 2;have f3:=ff 3;have f4:=ff 4;have f5:=ff 5;have f6:=ff 6;have f7:=ff 7;have f8:=ff 8;have kk:=cT F3.out;obtain ⟨j0,j1,j2,j3,j4,j5,j6,j7,j8⟩:=kk;clear ff))
 go_wp2_with fail;have r1:=Nat.lt_of_lt_of_le l1 my1.size;have r2:=Nat.lt_of_lt_of_le l1 my2.size;exact bodyPost_ret (v:=.agg #[.int .i64 s1,.int .i64 w1,.slice (some ⟨g1,0,none⟩) m1 d1,.int .i64 s2,.int .i64 w2,.slice (some ⟨g2,0,none⟩) m2 d2,.int .i64 s3,.int .i64 w3,.slice (some ⟨g3,0,none⟩) m3 d3]) (by simp [results,Tryz.results60,go_sem,j0,j1,j2,j3,j4,j5,j6,j7,j8]) rfl
  ⟨⟨_,rfl,g1,d1,g2,d2,g3,d3,rfl,aP (aI OP1'.out (gb9 y3 (w.heap.size+1) _ _ _ _ _ _ _ _ _) l1) (Nat.le_of_lt (Nat.lt_trans (Nat.lt_succ_self _) l1)),aP (aI OP2.out (gb9 y3 (w.heap.size+1) _ _ _ _ _ _ _ _ _) r1) (by omega),aP (aI OO3.out (gb9 y3 (w.heap.size+1) _ _ _ _ _ _ _ _ _) r2) (by omega)⟩,Dj (bst n1 my3) (by omega) _ _ _ _ _ _ _ _ _⟩
theorem KOwn.at {base:Nat} {w:World} {v:Value} {k:KM} (h:KOwn base w v k) (h1:fy k.i) (h2:fy k.d) (h3:fy k.p):KAt w v k:=by
 obtain ⟨g1,c1,g2,c2,g3,c3,rfl,o1,o2,o3⟩:=h;exact ⟨some ⟨g1,0,none⟩,c1,some ⟨g2,0,none⟩,c2,some ⟨g3,0,none⟩,c3,rfl,TlbOwn.at ⟨g1,c1,rfl,o1⟩ h1,TlbOwn.at ⟨g2,c2,rfl,o2⟩ h2,TlbOwn.at ⟨g3,c3,rfl,o3⟩ h3⟩
end
end Go.Proofs.YtpdddbobhndbjaaGreat
