import Derived.Test.YthdgiakgepmabaaGreatPk07
import Derived.Deep.DeepCutAuto
namespace Go.Proofs.YthdgiakgepmabaaGreat
open Go.RowKit
set_option linter.unusedVariables false
set_option maxHeartbeats 6400000
set_option maxRecDepth 20000
section
attribute [local go_sem ↓] Go.wp_at_zero Go.wp_at_succ
def bJ (f:FenceM) (k:Nat) (es:List EntM):List EntM:=(es.take k).map (gZ f)++es.drop k
theorem si (f:FenceM) (k:Nat) (es:List EntM):(bJ f k es).length=es.length:=by
 simp [bJ];omega
theorem qB (f:FenceM) (k:Nat) (es:List EntM) (x:EntM) (hx:es[k]?=some x):bJ f (k+1) es=(bJ f k es).set k (gZ f x):=by
 obtain ⟨hk,rfl⟩:=List.getElem?_eq_some_iff.1 hx;unfold bJ;apply List.ext_getElem?;intro j;rw [List.getElem?_set];by_cases hj:k=j
 ·subst hj;rw [if_pos rfl,if_pos (by simp;omega),List.getElem?_append_left (by simp;omega)];simp [hk]
 ·rw [if_neg hj];by_cases hlt:j<k
  ·rw [List.getElem?_append_left (by simp;omega),List.getElem?_append_left (by simp;omega)];simp [hlt,show j<k+1 by omega]
  ·rw [List.getElem?_append_right (by simp;omega),List.getElem?_append_right (by simp;omega)];simp;rw [show min (k+1) es.length=k+1 by omega,show min k es.length=k by omega];congr 1;omega
theorem Cx:∀(l:List EntM) (k:Nat) (e:EntM),k<l.length->bE (l.set k e)=((((((bE l).set (k*6) (.bool e.valid)).set (k*6+1) (VI e.level)).set (k*6+2) (VU e.tag)).set (k*6+3) (VU e.asid)).set (k*6+4) (.bool e.glob)).set (k*6+5) (VU e.pte)
 | x::r,0,e,h=>by simp [bE,ky]
 | x::r,k+1,e,h=>by
  have ih:=Cx r k e (by simpa using h);rw [List.set_cons_succ];simp only [bE,ih];rw [show (k+1)*6=(ky x).length+k*6 by simp [ky];omega];simp only [Nat.add_assoc];rw [List.set_append_right _ _ (by simp [ky]),List.set_append_right _ _ (by omega),List.set_append_right _ _ (by omega),List.set_append_right _ _ (by omega),List.set_append_right _ _ (by omega),List.set_append_right _ _ (by omega)];simp
theorem Ct (v:Value) (t:TlbM) (f:FenceM) (w:World) (h:TlbAt w v t) (hf0:0<=f.va) (hf1:f.va<=18446744073709551615):
 Calls Tryz.prog 98 #[v,D9 f] w fun e w'=>(∃x,e=.returned x∧TlbOwn w.heap.size w' x (eL t f))∧Bw w w':=by
 have HT:=hid h;have HOK:=hid (TlbAt.ok h);obtain ⟨a,cap,rfl,hr,_,_,_,hl,hlc,hcm,hnil,hsp⟩:=h;obtain ⟨eb,heb⟩:∃eb,fH t=eb:=⟨_,rfl⟩;have HEb:=hid heb;obtain ⟨sets,ways,es⟩:=t;obtain ⟨hv,fva,ha,fa⟩:=f;obtain ⟨n,hn⟩:∃n,es.length=n:=⟨_,rfl⟩;simp only at hr hl hlc hnil hf0 hf1 HT |-;have HN:=hid hn;rw [hn] at hr hl hlc hnil HT |-;obtain ⟨X,hX⟩:∃X,eL ⟨sets,ways,es⟩ ⟨hv,fva,ha,fa⟩=X:=⟨_,rfl⟩;have HX:=hid hX;rw [hX];have HR0:=hid hr;have HLv:Hid (eb=true->∀(j:Nat) x,es[j]?=some x->x.valid=true->0<=x.level∧x.level<=2):=fun h j x hx hv=>dv (t:=⟨sets,ways,es⟩) (heb.trans h) j x hx hv;clear hX;unfold D9;simp only;obtain ⟨v1,Ev1,n1,H1,H2,H3,l1⟩:=al3 w #[VI sets,VI ways,.slice a n cap] #[.bool hv,VU fva,.bool ha,VU fa] #[VI 0,VI 0,SN] 40 52 40;have HT1:=hid (HT.out.keep n1);have HR1:=hid (hr.keep n1);clear hr hnil hsp HT heb hn;go_enter Tryz.func98,Tryz.ntmps98;go_wp2_with fail;rw [Ev1.out];clear Ev1;refine (Ce _ ⟨sets,ways,es⟩ v1 HT1.out).mono ?_;rintro e v2 ⟨⟨x,rfl,g,cp,rfl,o2⟩,n2⟩;simp only at o2 |-;rw [HN.out] at o2 |-;have O2:=hid o2;have hg:=bx o2;have n12:=bst n1 n2;have HT2:=hid (HT1.out.keep n2);have HR2:=hid (RowC.keep HR1.out n2);have K1:=ae H1 n2;have K2:=ae H2 n2;have K3:=ae H3 n2;have l2:=n2.size;obtain ⟨_,hg1,hg2⟩:=hg;simp only at hg1 hg2;clear o2 n1 n2 HT1 HR1 H1 H2 H3;obtain ⟨⟨c0,c1,c2⟩,_,_,_⟩:=au K1.out;have s0:w.heap.size<v2.heap.size:=by omega
 go_wp2_with fail;obtain ⟨v3,Ev3,n3,H4,l3⟩:=al1 v2 #[VI sets,VI ways,SL g n cp] 40;rw [Ev3.out];clear Ev3;have n13:=bst n12 n3;have HT3:=hid (HT2.out.keep n3);refine (DO _ ⟨sets,ways,es⟩ v3 HT3.out).mono ?_;rw [HEb.out];rintro e v4 ⟨rfl,n4⟩;have n34:=bst n3 n4;have A4:=bst n12 n34;have HR4:Hid (RowC v4 a n 6 (bE es)):=RowC.keep HR2.out n34;have O4:Hid (v4.ownsRow v1.heap.size 154 6 (SL g n cp) n (bE es)):=cB O2.out n34;have P1:=ae K1 n34;have P2:=ae K2 n34;have P3:=ae K3 n34;have P4:=ae H4 n4;have l4:v2.heap.size<v4.heap.size:=ltl l3 n4.size;clear c0 c1 c2 n12 n13 n3 n4 n34 HT2 HT3 HR2 O2 K1 K2 K3 H4 l3;obtain ⟨⟨p0,p1,p2⟩,_,_,_⟩:=au P4.out;cases eb
 ·have hfl:X=⟨sets,ways,es⟩:=by rw [<-HX.out];unfold eL;rw [if_neg (by rw [HEb.out];simp)]
  obtain ⟨⟨d0,d1,d2⟩,e0,e1,e2⟩:=au P3.out;go_wp2_with fail;refine bodyPost_ret (v:=.agg #[VI sets,VI ways,SL g n cp]) (by simp [results,Tryz.results98,go_sem,d0,d1,d2]) rfl ⟨⟨_,rfl,?_⟩,iG A4 (by omega) _ _ _⟩;rw [hfl];refine ⟨g,cp,by rw [HN.out],?_⟩;simp only;rw [HN.out];exact bD (ao O4.out (gb3 v4 (w.heap.size+1+1) _ _ _) (by omega)) (by omega)
 ·have HLv':=HLv.out rfl;have HL2:Hid (∀(j:Nat) x,es[j]?=some x->x.valid=true->0<=x.level∧x.level<=2):=HLv';clear HLv HLv';go_wp2;go_loopw [6] (fun i wr=>∃k:Nat,k<=n∧i=VI k∧v4.grownBy wr (some g)∧wr.ownsRow v1.heap.size 154 6 (SL g n cp) n (bE (bJ ⟨hv,fva,ha,fa⟩ k es))) (fun i _=>n-(intOf i).toNat)
  case atStart=>exact ⟨0,Nat.zero_le _,rfl,cC _ _,by rw [show bJ ⟨hv,fva,ha,fa⟩ 0 es=es by simp [bJ]];exact O4.out⟩
  case round=>
   obtain ⟨k,hk,rfl,hn,hO⟩:=hrel;have HO:Hid (wr.ownsRow v1.heap.size 154 6 (SL g n cp) n (bE (bJ ⟨hv,fva,ha,fa⟩ k es))):=hO;have lr:v4.heap.size<=wr.heap.size:=hn.size;clear p0 p1 p2;obtain ⟨⟨p0,p1,p2⟩,_,_,_⟩:=au (aq P4.out hn (by omega));by_cases hlt:k<n
   ·obtain ⟨x,hx⟩:∃x,es[k]?=some x:=⟨_,geg (by rw [HN.out];exact hlt)⟩;obtain ⟨b,off,rfl,hb⟩:∃b off,a=some (AD b off)∧b<w.heap.size:=by
     rcases HR0.out.2 with h | ⟨b,off,h,h2,_⟩
     ·omega
     ·exact ⟨b,off,h,h2⟩
    have CE:∀j u,j<6->(ky x)[j]?=some u->wr.cell? ⟨b,off+(k*6+j),none⟩=some u:=fun j u hj hu=>
     qM hn (Below.cell2 A4 (xY HR0.out HN.out k x hx j u hj hu) hb) (by omega) (by omega)
    obtain ⟨vv,lv,tg,asd,gl,pt⟩:=x;have g0:wr.cell? ⟨b,off+k*6,none⟩=some (.bool vv):=CE 0 _ (by omega) rfl;have g1:wr.cell? ⟨b,off+k*6+1,none⟩=some (VI lv):=CE 1 _ (by omega) rfl;have g2:wr.cell? ⟨b,off+k*6+2,none⟩=some (VU tg):=CE 2 _ (by omega) rfl;have g3:wr.cell? ⟨b,off+k*6+3,none⟩=some (VU asd):=CE 3 _ (by omega) rfl;have g4:wr.cell? ⟨b,off+k*6+4,none⟩=some (.bool gl):=CE 4 _ (by omega) rfl;have g5:wr.cell? ⟨b,off+k*6+5,none⟩=some (VU pt):=CE 5 _ (by omega) rfl;have hok:BE ⟨vv,lv,tg,asd,gl,pt⟩:=HOK.out.1 _ (List.mem_of_getElem? hx);have HNx:Hid (bJ ⟨hv,fva,ha,fa⟩ (k+1) es=(bJ ⟨hv,fva,ha,fa⟩ k es).set k (gZ ⟨hv,fva,ha,fa⟩ ⟨vv,lv,tg,asd,gl,pt⟩)):=qB _ k es _ hx;have HSm:Hid ((bJ ⟨hv,fva,ha,fa⟩ k es).set k ⟨vv,lv,tg,asd,gl,pt⟩=bJ ⟨hv,fva,ha,fa⟩ k es):=by
     show _=_;apply List.ext_getElem?;intro j;rw [List.getElem?_set];by_cases hj:k=j
     ·subst hj;rw [if_pos rfl,if_pos (by rw [si,HN.out];exact hlt)];unfold bJ;have hkl:k<=es.length:=by rw [HN.out];omega
      rw [List.getElem?_append_right (by simp;omega),List.length_map,List.length_take,Nat.min_eq_left hkl,Nat.sub_self,List.getElem?_drop,Nat.add_zero,hx]
     ·rw [if_neg hj]
    have HLx:Hid (vv=true->0<=lv∧lv<=2):=fun h=>HL2.out k _ hx h;obtain ⟨⟨c0,c1,c2⟩,_,_,_⟩:=au (aq P1.out hn (by omega));obtain ⟨⟨f0,f1,f2,f3⟩,_,_,_,_⟩:=aO (aq P2.out hn (by omega));have u0:w.heap.size<wr.heap.size:=by omega
    have u1:w.heap.size+1<wr.heap.size:=by omega
    have u2:v2.heap.size<wr.heap.size:=by omega
    have n5:=(Below.refl wr.heap.size wr).alloc nle (Obj.cells #[.bool vv,VI lv,VU tg,VU asd,.bool gl,VU pt] 154);clear CE hx hO;cases vv
    ·have hst:gZ ⟨hv,fva,ha,fa⟩ ⟨false,lv,tg,asd,gl,pt⟩=⟨false,lv,tg,asd,gl,pt⟩:=by simp [gZ]
     go_wp2;go_roundw
     case rel=>exact ⟨k+1,by omega,by go_num,iQ hn n5,by rw [HNx.out,hst,HSm.out];exact cB HO.out n5⟩
     case measure=>simp [intOf];omega
    ·obtain ⟨hl0,hl2⟩:=HLx.out rfl;obtain ⟨cb,hcb⟩:∃cb,By ⟨hv,fva,ha,fa⟩ lv tg asd gl=cb:=⟨_,rfl⟩;have HCov:Hid (∀w,Calls Tryz.prog 42 #[.agg #[.bool hv,VU fva,.bool ha,VU fa],VI lv,VU tg,VU asd,.bool gl] w fun e w'=>e=.returned (.bool cb)∧Bw w w'):=fun w=>by
      have:=DP ⟨hv,fva,ha,fa⟩ lv tg asd gl w hf0 hf1 hl0 hl2;rw [hcb] at this;exact this
     have HCb:Hid (By ⟨hv,fva,ha,fa⟩ lv tg asd gl=cb):=hcb;clear hcb;go_wp2_with fail;generalize wr.alloc (Obj.cells #[.bool true,VI lv,VU tg,VU asd,.bool gl,VU pt] 154)=v5 at n5 |-;refine (HCov.out v5).mono ?_;rintro e v6 ⟨rfl,n6⟩;have n56:=bst n5 n6;have hn6:=iQ hn n56;have HO6:=hid (cB HO.out n56);clear g0 g1 g2 g3 g4 g5 c0 c1 c2 f0 f1 f2 f3 p0 p1 p2 n5 n6 HO hn;obtain ⟨⟨p0,p1,p2⟩,_,_,_⟩:=au (aq P4.out hn6 (by omega));cases cb
     ·have hst:gZ ⟨hv,fva,ha,fa⟩ ⟨true,lv,tg,asd,gl,pt⟩=⟨true,lv,tg,asd,gl,pt⟩:=by simp [gZ,HCb.out]
      go_wp2;go_roundw
      case rel=>exact ⟨k+1,by omega,by go_num,hn6,by rw [HNx.out,hst,HSm.out];exact HO6.out⟩
      case measure=>simp [intOf];omega
     ·have hst:gZ ⟨hv,fva,ha,fa⟩ ⟨true,lv,tg,asd,gl,pt⟩=bC:=by simp [gZ,HCb.out]
      have hcl:(bE (bJ ⟨hv,fva,ha,fa⟩ k es)).length=n*6:=by rw [fO,si,HN.out]
      have q0:=aK HO6.out (k*6) _ (geg (by omega));have q1:=aK HO6.out (k*6+1) _ (geg (by omega));have q2:=aK HO6.out (k*6+2) _ (geg (by omega));have q3:=aK HO6.out (k*6+3) _ (geg (by omega));have q4:=aK HO6.out (k*6+4) _ (geg (by omega));have q5:=aK HO6.out (k*6+5) _ (geg (by omega));generalize (bE (bJ ⟨hv,fva,ha,fa⟩ k es))[k*6]'_=y0 at q0;generalize (bE (bJ ⟨hv,fva,ha,fa⟩ k es))[k*6+1]'_=y1 at q1;generalize (bE (bJ ⟨hv,fva,ha,fa⟩ k es))[k*6+2]'_=y2 at q2;generalize (bE (bJ ⟨hv,fva,ha,fa⟩ k es))[k*6+3]'_=y3 at q3;generalize (bE (bJ ⟨hv,fva,ha,fa⟩ k es))[k*6+4]'_=y4 at q4;generalize (bE (bJ ⟨hv,fva,ha,fa⟩ k es))[k*6+5]'_=y5 at q5;have r0:=aT HO6.out (k*6);have r1:=aT HO6.out (k*6+1);have r2:=aT HO6.out (k*6+2);have r3:=aT HO6.out (k*6+3);have r4:=aT HO6.out (k*6+4);have r5:=aT HO6.out (k*6+5);go_wp2;go_roundw
      case rel=>
       refine ⟨k+1,by omega,by go_num,aj (aj (aj (aj (aj (aj hn6 _ _) _ _) _ _) _ _) _ _) _ _,?_⟩;rw [HNx.out,hst,Cx _ _ _ (by rw [si,HN.out];exact hlt)];exact aJ (aJ (aJ (aJ (aJ (aJ HO6.out _ _) _ _) _ _) _ _) _ _) _ _
      case measure=>simp [intOf];omega
   ·have hkn:k=n:=by omega
    subst hkn;have hfl:X=⟨sets,ways,es.map (gZ ⟨hv,fva,ha,fa⟩)⟩:=by rw [<-HX.out];unfold eL;rw [if_pos HEb.out]
    have hsn:bJ ⟨hv,fva,ha,fa⟩ k es=es.map (gZ ⟨hv,fva,ha,fa⟩):=by
     have hq:=HN.out;unfold bJ;rw [<-hq,List.take_length,List.drop_length,List.append_nil]
    obtain ⟨⟨d0,d1,d2⟩,e0,e1,e2⟩:=au (aq P3.out hn (by omega));go_wp2_with fail;refine bodyPost_ret (v:=.agg #[VI sets,VI ways,SL g k cp]) (by simp [results,Tryz.results98,go_sem,d0,d1,d2]) rfl ⟨⟨_,rfl,?_⟩,iG (A4.grown hn (by have:=A4.size;omega) (fun q hq=>by cases hq;omega)) (by omega) _ _ _⟩;rw [hfl];refine ⟨g,cp,by simp only [List.length_map];rw [HN.out],?_⟩;simp only [List.length_map];rw [HN.out,<-hsn];exact bD (ao HO.out (gb3 wr (w.heap.size+1+1) _ _ _) (by omega)) (by omega)
end
section
attribute [local go_sem ↓] Go.wp_at_zero Go.wp_at_succ
theorem D8 {v:World} {p:Nat} {T:TypeId} {a b c d e f:Value} (h:v.heap[p]?=some (.cells #[a,b,c,d,e,f] T (0,0))):
 v.cell? (AD p 0)=some a∧v.cell? (AD p 1)=some b∧v.cell? (AD p 2)=some c∧v.cell? (AD p 3)=some d∧v.cell? (AD p 4)=some e∧v.cell? (AD p 5)=some f:=by
 simp [World.cell?,h]
theorem TlbOwn.drew {base:Nat} {w:World} {v:Value} {t:TlbM} (h:TlbOwn base w v t):TlbOwn base w.drew v t:=h
theorem ny (es:List EntM) (first:Nat):∀(left w k:Nat),k<left->(∀j,j<k->(es[first+(w+j)]?.getD bC).valid=true)->(es[first+(w+k)]?.getD bC).valid=false->iU es first w left=some (w+k)
 | 0,w,k,h,_,_=>by omega
 | left+1,w,0,h,h1,h2=>by
  rw [iU,if_pos (by simpa using h2)];rfl
 | left+1,w,k+1,h,h1,h2=>by
  rw [iU,if_neg (by have:=h1 0 (by omega);simp at this;rw [this];simp)];rw [ny es first left (w+1) k (by omega) (fun j hj=>by rw [show w+1+j=w+(j+1) by omega];exact h1 (j+1) (by omega)) (by rw [show w+1+k=w+(k+1) by omega];exact h2)];congr 1;omega
theorem DB (es:List EntM) (first:Nat):∀(left w:Nat),(∀j,j<left->(es[first+(w+j)]?.getD bC).valid=true)->iU es first w left=none
 | 0,w,h=>rfl
 | left+1,w,h=>by
  rw [iU,if_neg (by have:=h 0 (by omega);simp at this;rw [this];simp)];exact DB es first left (w+1) (fun j hj=>by rw [show w+1+j=w+(j+1) by omega];exact h (j+1) (by omega))
theorem Di (v:Value) (t:TlbM) (x:EntM) (pick:Int) (w:World) (h:TlbAt w v t) (hx:BE x):
 Calls Tryz.prog 120 #[v,AQ x,VI pick] w fun e w'=>(∃y,e=.returned y∧TlbOwn w.heap.size w' y (cU t x pick))∧Bw w w':=by
 have HT:=hid h;have HOK:=hid (TlbAt.ok h);obtain ⟨a,cap,rfl,hr,_,_,_,hl,hlc,hcm,hnil,hsp⟩:=h;obtain ⟨sets,ways,es⟩:=t;obtain ⟨vv,lv,tg,asd,gl,pt⟩:=x;obtain ⟨n,hn⟩:∃n,es.length=n:=⟨_,rfl⟩;simp only at hr hl hlc hnil HT |-;have HN:=hid hn;rw [hn] at hr hl hlc hnil HT |-;obtain ⟨X,hX⟩:∃X,cU ⟨sets,ways,es⟩ ⟨vv,lv,tg,asd,gl,pt⟩ pick=X:=⟨_,rfl⟩;have HX:=hid hX;rw [hX];have HR0:=hid hr;obtain ⟨q1,hq1⟩:∃q,aF ⟨sets,ways,es⟩ true=q:=⟨_,rfl⟩;obtain ⟨q2,hq2⟩:∃q,aF ⟨sets,ways,es⟩ false=q:=⟨_,rfl⟩;obtain ⟨q3,hq3⟩:∃q,aH ⟨vv,lv,tg,asd,gl,pt⟩ true=q:=⟨_,rfl⟩;obtain ⟨q4,hq4⟩:∃q,aH ⟨vv,lv,tg,asd,gl,pt⟩ false=q:=⟨_,rfl⟩;have HFi:Hid (qO ⟨sets,ways,es⟩ ⟨vv,lv,tg,asd,gl,pt⟩=((q1 && q3) || (q2 && q4))):=by show _=_;rw [qO,hq1,hq2,hq3,hq4]
 have HQ:Hid (aF ⟨sets,ways,es⟩ true=q1∧aF ⟨sets,ways,es⟩ false=q2):=⟨hq1,hq2⟩;have HG:Hid (∀p w,Calls Tryz.prog 137 #[.agg #[.bool vv,VI lv,VU tg,VU asd,.bool gl,VU pt],.bool p] w fun e w'=>e=.returned (.bool (cond p q3 q4))∧Bw w w'):=fun p w=>by
  have:=C5 ⟨vv,lv,tg,asd,gl,pt⟩ p w hx;cases p
  ·rw [hq4] at this;exact this
  ·rw [hq3] at this;exact this
 have HV:Hid (∀p w,TlbAt w (.agg #[VI sets,VI ways,.slice a n cap]) ⟨sets,ways,es⟩->Calls Tryz.prog 134 #[.agg #[VI sets,VI ways,.slice a n cap],.bool p] w fun e w'=>e=.returned (.bool (cond p q1 q2))∧Bw w w'):=fun p w h=>by
  have:=BI _ _ p w h;cases p
  ·rw [hq2] at this;exact this
  ·rw [hq1] at this;exact this
 unfold AQ;simp only;obtain ⟨v1,Ev1,n1,H1,H2,H3,l1⟩:=al3 w #[VI sets,VI ways,.slice a n cap] #[.bool vv,VI lv,VU tg,VU asd,.bool gl,VU pt] #[VI 0,VI 0,SN] 40 154 40;have HT1:=hid (HT.out.keep n1);clear hr hnil hsp HT hn hX hq1 hq2 hq3 hq4;go_enter Tryz.func120,Tryz.ntmps120;go_wp2_with fail;rw [Ev1.out];clear Ev1;refine (Ce _ ⟨sets,ways,es⟩ v1 HT1.out).mono ?_;rintro e v2 ⟨⟨x,rfl,g,cp,rfl,o2⟩,n2⟩;simp only at o2 |-;rw [HN.out] at o2 |-;have O2:=hid o2;have hg:=bx o2;have A2:=bst n1 n2;have HT2:=hid (HT1.out.keep n2);have K1:=ae H1 n2;have K2:=ae H2 n2;have K3:=ae H3 n2;have l2:=n2.size;obtain ⟨_,hg1,hg2⟩:=hg;simp only at hg1 hg2;clear o2 n1 n2 HT1 H1 H2 H3;go_upto_region 2 with fail;obtain ⟨v3,Ev3,n3,H4,l3⟩:=al1 v2 #[VI sets,VI ways,SL g n cp] 40;rw [Ev3.out];clear Ev3;have A3:=bst A2 n3;have HT3:Hid (∀v,Bw v3 v->TlbAt v (.agg #[VI sets,VI ways,.slice a n cap]) ⟨sets,ways,es⟩):=fun v hv=>(HT2.out.keep n3).keep hv;have O3:Hid (v3.ownsRow v1.heap.size 154 6 (SL g n cp) n (bE es)):=cB O2.out n3;have P1:=ae K1 n3;have P2:=ae K2 n3;have P3:=ae K3 n3;clear n3 HT2 O2 K1 K2 K3 A2;have HC:Hid (∀v,Bw v3 v->(v.cell? (AD w.heap.size 0)=some (VI sets)∧v.cell? (AD w.heap.size 1)=some (VI ways)∧v.cell? (AD w.heap.size 2)=some (.slice a n cap))∧
  v.cell? ⟨w.heap.size+1,0,none⟩=some (.bool vv)∧v.cell? ⟨w.heap.size+1,1,none⟩=some (VI lv)∧v.cell? ⟨w.heap.size+1,2,none⟩=some (VU tg)∧v.cell? ⟨w.heap.size+1,3,none⟩=some (VU asd)∧v.cell? ⟨w.heap.size+1,4,none⟩=some (.bool gl)∧v.cell? ⟨w.heap.size+1,5,none⟩=some (VU pt)):=
  fun v hv=>⟨(au (ag P1.out hv (by omega))).1,D8 (ag P2.out hv (by omega))⟩
 have bl:Bw v3 v3:=brf;obtain ⟨FB,hFB⟩:∃FB,((q1 && q3) || (q2 && q4))=FB:=⟨_,rfl⟩;go_cut [8] (fun s8 wx=>s8=.bool FB∧Bw v3 wx)
 case first=>
  obtain ⟨⟨c0,c1,c2⟩,f0,f1,f2,f3,f4,f5⟩:=HC.out v3 bl;cases q1
  ·cases q2 <;> cases q4;all_goals
    go_wp2_with (first
    | (go_at_call 134;refine (HV.out _ _ (HT3.out _ bl)).mono ?_;rintro e vz ⟨rfl,nz⟩;dsimp only [cond];replace bl:=bst bl nz;clear c0 c1 c2 f0 f1 f2 f3 f4 f5;have cc:=HC.out _ bl;obtain ⟨⟨c0,c1,c2⟩,f0,f1,f2,f3,f4,f5⟩:=cc)
    | (go_at_call 137;refine (HG.out _ _).mono ?_;rintro e vz ⟨rfl,nz⟩;dsimp only [cond];replace bl:=bst bl nz;clear c0 c1 c2 f0 f1 f2 f3 f4 f5;have cc:=HC.out _ bl;obtain ⟨⟨c0,c1,c2⟩,f0,f1,f2,f3,f4,f5⟩:=cc))
    go_meet;exact ⟨by rw [<-hFB];rfl,bl⟩
  ·cases q3
   ·cases q2 <;> cases q4;all_goals
     go_wp2_with (first
     | (go_at_call 134;refine (HV.out _ _ (HT3.out _ bl)).mono ?_;rintro e vz ⟨rfl,nz⟩;dsimp only [cond];replace bl:=bst bl nz;clear c0 c1 c2 f0 f1 f2 f3 f4 f5;have cc:=HC.out _ bl;obtain ⟨⟨c0,c1,c2⟩,f0,f1,f2,f3,f4,f5⟩:=cc)
     | (go_at_call 137;refine (HG.out _ _).mono ?_;rintro e vz ⟨rfl,nz⟩;dsimp only [cond];replace bl:=bst bl nz;clear c0 c1 c2 f0 f1 f2 f3 f4 f5;have cc:=HC.out _ bl;obtain ⟨⟨c0,c1,c2⟩,f0,f1,f2,f3,f4,f5⟩:=cc))
     go_meet;exact ⟨by rw [<-hFB];rfl,bl⟩
   ·go_wp2_with (first
    | (go_at_call 134;refine (HV.out _ _ (HT3.out _ bl)).mono ?_;rintro e vz ⟨rfl,nz⟩;dsimp only [cond];replace bl:=bst bl nz;clear c0 c1 c2 f0 f1 f2 f3 f4 f5;have cc:=HC.out _ bl;obtain ⟨⟨c0,c1,c2⟩,f0,f1,f2,f3,f4,f5⟩:=cc)
    | (go_at_call 137;refine (HG.out _ _).mono ?_;rintro e vz ⟨rfl,nz⟩;dsimp only [cond];replace bl:=bst bl nz;clear c0 c1 c2 f0 f1 f2 f3 f4 f5;have cc:=HC.out _ bl;obtain ⟨⟨c0,c1,c2⟩,f0,f1,f2,f3,f4,f5⟩:=cc))
    go_meet;exact ⟨by rw [<-hFB];rfl,bl⟩
 case rest=>
  obtain ⟨rfl,m⟩:=hcut;generalize wc=v4 at m |-;have A4:=bst A3 m;have O4:Hid (v4.ownsRow v1.heap.size 154 6 (SL g n cp) n (bE es)):=cB O3.out m;have R1:=ae P1 m;have R2:=ae P2 m;have R3:=ae P3 m;have R4:=ae H4 m;have l4:v3.heap.size<=v4.heap.size:=m.size;have HFB:Hid (qO ⟨sets,ways,es⟩ ⟨vv,lv,tg,asd,gl,pt⟩=FB):=HFi.out.trans hFB;clear HFi hFB HC HT3 HG HV P1 P2 P3 H4 O3 A3 m bl;obtain ⟨⟨p0,p1,p2⟩,_,_,_⟩:=au R4.out;obtain ⟨⟨d0,d1,d2⟩,e0,e1,e2⟩:=au R3.out;by_cases hok:FB=true∧0<=pick∧pick<=255
  ·obtain ⟨rfl,hp0,hp1⟩:=hok;obtain ⟨pp,hvp,hgp⟩:∃pp,aF ⟨sets,ways,es⟩ pp=true∧aH ⟨vv,lv,tg,asd,gl,pt⟩ pp=true:=by
    have:=HFB.out;simp only [qO,Bool.or_eq_true,Bool.and_eq_true] at this;rcases this with ⟨h1,h2⟩ | ⟨h1,h2⟩
    ·exact ⟨true,h1,h2⟩
    ·exact ⟨false,h1,h2⟩
   obtain ⟨hs,hw,hw',hnw⟩:=eM hvp;simp only at hs hw hw' hnw;rw [HN.out] at hnw;have htg:tg<512:=Gf hgp;have htg0:0<=tg:=hx.2.1.1;have HXe:Hid (X=⟨sets,ways,es.set (BF ⟨sets,ways,es⟩ ⟨vv,lv,tg,asd,gl,pt⟩+jX ⟨sets,ways,es⟩ ⟨vv,lv,tg,asd,gl,pt⟩ pick) ⟨vv,lv,tg,asd,gl,pt⟩⟩):=by
    show _=_;rw [<-HX.out];unfold cU;rw [if_pos ⟨HFB.out,hp0,hp1⟩]
   obtain ⟨⟨c0,c1,c2⟩,_,_,_⟩:=au R1.out;obtain ⟨f0,f1,f2,f3,f4,f5⟩:=D8 R2.out;have hf1:=yn (t:=⟨sets,ways,es⟩) (e:=⟨vv,lv,tg,asd,gl,pt⟩) htg0 hs hw;simp only at hf1;have HIx:=fun pk=>IU (t:=⟨sets,ways,es⟩) (e:=⟨vv,lv,tg,asd,gl,pt⟩) (pick:=pk) hvp htg0;obtain ⟨fi,hfi⟩:∃fi,BF ⟨sets,ways,es⟩ ⟨vv,lv,tg,asd,gl,pt⟩=fi:=⟨_,rfl⟩;have HFi:Hid (BF ⟨sets,ways,es⟩ ⟨vv,lv,tg,asd,gl,pt⟩=fi):=hfi;rw [hfi] at hf1;have hfb:(fi:Int)+ways<=n:=by
    have h3:tg%sets<sets:=Int.emod_lt_of_pos _ (by omega);have h5:(tg%sets+1)*ways<=sets*ways:=Int.mul_le_mul_of_nonneg_right (by omega) (by omega);rw [Int.add_mul] at h5;omega
   have HF1:Hid ((fi:Int)=tg%sets*ways):=hf1;have HWr:Hid (wrap64 (tg%sets*ways)=(fi:Int)):=by
    show _=_;rw [<-hf1];unfold wrap64;omega
   clear hfi HIx hf1;go_upto_region 5 with fail;go_cut [9] (fun s9 wx=>s9=VI fi∧∃q,wx=v4.drewN q)
   case first=>
    rcases hs with rfl | rfl | rfl | rfl;all_goals
     go_quiet (fail);go_wp2;go_meet;exact ⟨by first | rw [HWr.out] | (rw [HF1.out] <;> simp),nq,rfl⟩
   case rest=>
    obtain ⟨rfl,qd,rfl⟩:=hcut;have A5:Bw w (v4.drewN qd):=below_drewN A4 qd;have O5:Hid ((v4.drewN qd).ownsRow v1.heap.size 154 6 (SL g n cp) n (bE es)):=O4;have S1:Hid ((v4.drewN qd).heap[w.heap.size]?=_):=R1;have S2:Hid ((v4.drewN qd).heap[w.heap.size+1]?=_):=R2;have S3:Hid ((v4.drewN qd).heap[w.heap.size+1+1]?=_):=R3;have S4:Hid ((v4.drewN qd).heap[v2.heap.size]?=_):=R4;have l5:v3.heap.size<=(v4.drewN qd).heap.size:=l4;generalize v4.drewN qd=v5 at A5 O5 S1 S2 S3 S4 l5 |-;clear O4 R1 R2 R3 R4 l4 A4 c0 c1 c2 f0 f1 f2 f3 f4 f5 p0 p1 p2 d0 d1 d2 e0 e1 e2;go_wp2;go_loopw [10] (fun i wr=>∃k:Nat,(k:Int)<=ways∧i=VI k∧(∀j,j<k->(es[fi+j]?.getD bC).valid=true)∧Bw v5 wr) (fun i _=>ways.toNat-(intOf i).toNat)
    case atStart=>exact ⟨0,by omega,rfl,fun j hj=>absurd hj (by omega),brf⟩
    case round=>
     obtain ⟨k,hk,rfl,hall,hb⟩:=hrel;have HAll:Hid (∀j,j<k->(es[fi+j]?.getD bC).valid=true):=hall;have HO:Hid (wr.ownsRow v1.heap.size 154 6 (SL g n cp) n (bE es)):=cB O5.out hb;have A6:=bst A5 hb;have lr:v3.heap.size<=wr.heap.size:=Nat.le_trans l5 hb.size;obtain ⟨⟨c0,c1,c2⟩,_,_,_⟩:=au (ag S1.out hb (by omega));obtain ⟨f0,f1,f2,f3,f4,f5⟩:=D8 (ag S2.out hb (by omega));obtain ⟨⟨d0,d1,d2⟩,e0,e1,e2⟩:=au (ag S3.out hb (by omega));obtain ⟨⟨p0,p1,p2⟩,_,_,_⟩:=au (ag S4.out hb (by omega));clear hall;by_cases hlt:(k:Int)<ways
     ·obtain ⟨x,hx'⟩:∃x,es[fi+k]?=some x:=⟨_,geg (by rw [HN.out];omega)⟩;obtain ⟨b,off,rfl,hbb⟩:∃b off,a=some (AD b off)∧b<w.heap.size:=by
       rcases HR0.out.2 with h | ⟨b,off,h,h2,_⟩
       ·omega
       ·exact ⟨b,off,h,h2⟩
      have CE:∀j u,j<6->(ky x)[j]?=some u->wr.cell? ⟨b,off+((fi+k)*6+j),none⟩=some u:=fun j u hj hu=>
       Below.cell2 A6 (xY HR0.out HN.out (fi+k) x hx' j u hj hu) hbb
      obtain ⟨xv,x1,x2,x3,x4,x5⟩:=x;have g0:wr.cell? ⟨b,off+(fi+k)*6,none⟩=some (.bool xv):=CE 0 _ (by omega) rfl;have g1:wr.cell? ⟨b,off+(fi+k)*6+1,none⟩=some (VI x1):=CE 1 _ (by omega) rfl;have g2:wr.cell? ⟨b,off+(fi+k)*6+2,none⟩=some (VU x2):=CE 2 _ (by omega) rfl;have g3:wr.cell? ⟨b,off+(fi+k)*6+3,none⟩=some (VU x3):=CE 3 _ (by omega) rfl;have g4:wr.cell? ⟨b,off+(fi+k)*6+4,none⟩=some (.bool x4):=CE 4 _ (by omega) rfl;have g5:wr.cell? ⟨b,off+(fi+k)*6+5,none⟩=some (VU x5):=CE 5 _ (by omega) rfl;have HXv:Hid ((es[fi+k]?.getD bC).valid=xv):=by show _=_;rw [hx'];rfl
      clear CE hx';cases xv
      ·have HXf:Hid (X=⟨sets,ways,es.set (fi+k) ⟨vv,lv,tg,asd,gl,pt⟩⟩):=by
        show _=_;rw [HXe.out,HFi.out];have:jX ⟨sets,ways,es⟩ ⟨vv,lv,tg,asd,gl,pt⟩ pick=k:=by
         unfold jX;simp only;rw [HFi.out,ny es fi ways.toNat 0 k (by omega) (fun j hj=>by rw [Nat.zero_add];exact HAll.out j hj) (by rw [Nat.zero_add];exact HXv.out)];simp
        rw [this]
       have hcl:(bE es).length=n*6:=by rw [fO,HN.out]
       have y0:=aK HO.out ((fi+k)*6) _ (geg (by omega));have y1:=aK HO.out ((fi+k)*6+1) _ (geg (by omega));have y2:=aK HO.out ((fi+k)*6+2) _ (geg (by omega));have y3:=aK HO.out ((fi+k)*6+3) _ (geg (by omega));have y4:=aK HO.out ((fi+k)*6+4) _ (geg (by omega));have y5:=aK HO.out ((fi+k)*6+5) _ (geg (by omega));generalize (bE es)[(fi+k)*6]'_=z0 at y0;generalize (bE es)[(fi+k)*6+1]'_=z1 at y1;generalize (bE es)[(fi+k)*6+2]'_=z2 at y2;generalize (bE es)[(fi+k)*6+3]'_=z3 at y3;generalize (bE es)[(fi+k)*6+4]'_=z4 at y4;generalize (bE es)[(fi+k)*6+5]'_=z5 at y5;have r0:=aT HO.out ((fi+k)*6);have r1:=aT HO.out ((fi+k)*6+1);have r2:=aT HO.out ((fi+k)*6+2);have r3:=aT HO.out ((fi+k)*6+3);have r4:=aT HO.out ((fi+k)*6+4);have r5:=aT HO.out ((fi+k)*6+5);clear hcl;go_wp2_with fail;refine bodyPost_ret (v:=.agg #[VI sets,VI ways,SL g n cp]) (by simp [results,Tryz.results120,go_sem,d0,d1,d2]) rfl ⟨⟨_,rfl,?_⟩,iG (A6.grown (aj (aj (aj (aj (aj (aj (cC wr (some g)) _ _) _ _) _ _) _ _) _ _) _ _) (by have:=A6.size;omega) (fun q hq=>by cases hq;omega)) (by omega) _ _ _⟩;rw [HXf.out];refine ⟨g,cp,by simp only [List.length_set];rw [HN.out],?_⟩;simp only [List.length_set];rw [HN.out,Cx es (fi+k) _ (by rw [HN.out];omega)];exact bD (ao (aJ (aJ (aJ (aJ (aJ (aJ HO.out _ _) _ _) _ _) _ _) _ _) _ _) (gb3 _ (w.heap.size+1+1) _ _ _) (by omega)) (by omega)
      ·go_wp2;go_roundw
       case rel=>exact ⟨k+1,by omega,by go_num,fun j hj=>by
        by_cases e:j=k
        ·subst e;exact HXv.out
        ·exact HAll.out j (by omega),hb⟩
       case measure=>simp [intOf];omega
     ·have hkw:(k:Int)=ways:=by omega
      obtain ⟨pk,hpk⟩:=Int.eq_ofNat_of_zero_le (Int.emod_nonneg pick (show ways≠0 by omega));have hpk':(pk:Int)<ways:=by rw [<-hpk];exact Int.emod_lt_of_pos _ (by omega)
      have HXf:Hid (X=⟨sets,ways,es.set (fi+pk) ⟨vv,lv,tg,asd,gl,pt⟩⟩):=by
       show _=_;rw [HXe.out,HFi.out];have:jX ⟨sets,ways,es⟩ ⟨vv,lv,tg,asd,gl,pt⟩ pick=pk:=by
        unfold jX;simp only;rw [HFi.out,DB es fi ways.toNat 0 (fun j hj=>by rw [Nat.zero_add];exact HAll.out j (by omega)),hpk];simp
       rw [this]
      have hcl:(bE es).length=n*6:=by rw [fO,HN.out]
      have y0:=aK HO.out ((fi+pk)*6) _ (geg (by omega));have y1:=aK HO.out ((fi+pk)*6+1) _ (geg (by omega));have y2:=aK HO.out ((fi+pk)*6+2) _ (geg (by omega));have y3:=aK HO.out ((fi+pk)*6+3) _ (geg (by omega));have y4:=aK HO.out ((fi+pk)*6+4) _ (geg (by omega));have y5:=aK HO.out ((fi+pk)*6+5) _ (geg (by omega));generalize (bE es)[(fi+pk)*6]'_=z0 at y0;generalize (bE es)[(fi+pk)*6+1]'_=z1 at y1;generalize (bE es)[(fi+pk)*6+2]'_=z2 at y2;generalize (bE es)[(fi+pk)*6+3]'_=z3 at y3;generalize (bE es)[(fi+pk)*6+4]'_=z4 at y4;generalize (bE es)[(fi+pk)*6+5]'_=z5 at y5;have r0:=aT HO.out ((fi+pk)*6);have r1:=aT HO.out ((fi+pk)*6+1);have r2:=aT HO.out ((fi+pk)*6+2);have r3:=aT HO.out ((fi+pk)*6+3);have r4:=aT HO.out ((fi+pk)*6+4);have r5:=aT HO.out ((fi+pk)*6+5);clear hcl;have hrem:pick.tmod ways=(pk:Int):=by rw [Int.tmod_eq_emod_of_nonneg hp0];exact hpk
      have hwz:ways≠0:=by omega
      clear hpk;have i1:g≠w.heap.size:=by omega
      have i2:w.heap.size≠g:=by omega
      have i3:g≠w.heap.size+1:=by omega
      have i4:w.heap.size+1≠g:=by omega
      have i5:g≠v2.heap.size:=by omega
      have i6:v2.heap.size≠g:=by omega
      go_wp2_with fail;have t1:IntKind.i64.wrap ((fi:Int)+(pk:Int))=(fi:Int)+pk:=by
       rw [IntKind.wrap_i64];omega
      have t2:(0:Int)<=(fi:Int)+pk:=by omega
      have t3:(fi:Int)+pk<n:=by omega
      go_region_held (fun w'=>w'.cell? (AD v2.heap.size 2)=some (SL g n cp)∧w'.cell? (AD w.heap.size 1)=some (VI ways)∧w'.cell? ⟨w.heap.size+1,0,none⟩=some (.bool vv)∧w'.cell? ⟨w.heap.size+1,1,none⟩=some (VI lv)∧w'.cell? ⟨w.heap.size+1,2,none⟩=some (VU tg)∧w'.cell? ⟨w.heap.size+1,3,none⟩=some (VU asd)∧w'.cell? ⟨w.heap.size+1,4,none⟩=some (.bool gl)∧w'.cell? ⟨w.heap.size+1,5,none⟩=some (VU pt)) (go_keep) (fail);go_wp2_with fail;refine bodyPost_ret (v:=.agg #[VI sets,VI ways,SL g n cp]) (by simp [results,Tryz.results120,go_sem,d0,d1,d2]) rfl ⟨⟨_,rfl,?_⟩,(iG (A6.grown (aj (aj (aj (aj (aj (aj (cC wr (some g)) _ _) _ _) _ _) _ _) _ _) _ _) (by have:=A6.size;omega) (fun q hq=>by cases hq;omega)) (by omega) _ _ _).drew⟩;rw [HXf.out];refine ⟨g,cp,by simp only [List.length_set];rw [HN.out],?_⟩;simp only [List.length_set];rw [HN.out,Cx es (fi+pk) _ (by rw [HN.out];omega)];exact bD (sP (ao (aJ (aJ (aJ (aJ (aJ (aJ HO.out _ _) _ _) _ _) _ _) _ _) _ _) (gb3 _ (w.heap.size+1+1) _ _ _) (by omega))) (by omega)
  ·have hXt:X=⟨sets,ways,es⟩:=by
    rw [<-HX.out];unfold cU;rw [if_neg (by rw [HFB.out];exact hok)]
   have fin:∀v5,v5=v4->TlbOwn w.heap.size (((v5.setCell ⟨w.heap.size+1+1,0,none⟩ (VI sets)).setCell ⟨w.heap.size+1+1,1,none⟩ (VI ways)).setCell ⟨w.heap.size+1+1,2,none⟩ (SL g n cp)) (.agg #[VI sets,VI ways,SL g n cp]) X:=by
    rintro _ rfl;rw [hXt];refine ⟨g,cp,by rw [HN.out],?_⟩;simp only;rw [HN.out];exact bD (ao O4.out (gb3 _ (w.heap.size+1+1) _ _ _) (by omega)) (by omega)
   have HFin:Hid _:=fin;clear fin hXt;cases FB
   ·go_wp2_with fail;exact bodyPost_ret (v:=.agg #[VI sets,VI ways,SL g n cp]) (by simp [results,Tryz.results120,go_sem,d0,d1,d2]) rfl ⟨⟨_,rfl,(by first | exact HFin.out _ rfl | exact TlbOwn.drew (HFin.out _ rfl))⟩,(by first | exact iG A4 (by omega) _ _ _ | exact (iG A4 (by omega) _ _ _).drew)⟩
   ·by_cases hpn:pick<0
    ·go_wp2_with fail;exact bodyPost_ret (v:=.agg #[VI sets,VI ways,SL g n cp]) (by simp [results,Tryz.results120,go_sem,d0,d1,d2]) rfl ⟨⟨_,rfl,(by first | exact HFin.out _ rfl | exact TlbOwn.drew (HFin.out _ rfl))⟩,(by first | exact iG A4 (by omega) _ _ _ | exact (iG A4 (by omega) _ _ _).drew)⟩
    ·have hpg:255<pick:=by
      have:=hok;simp at this;omega
     go_wp2_with fail;exact bodyPost_ret (v:=.agg #[VI sets,VI ways,SL g n cp]) (by simp [results,Tryz.results120,go_sem,d0,d1,d2]) rfl ⟨⟨_,rfl,(by first | exact HFin.out _ rfl | exact TlbOwn.drew (HFin.out _ rfl))⟩,(by first | exact iG A4 (by omega) _ _ _ | exact (iG A4 (by omega) _ _ _).drew)⟩
end
section
attribute [local go_sem ↓] Go.wp_at_zero Go.wp_at_succ
theorem jP {v:World} {p:Nat} {T:TypeId} {a b c d e f g h i:Value} (hh:v.heap[p]?=some (.cells #[a,b,c,d,e,f,g,h,i] T (0,0))):
 v.cell? (AD p 0)=some a∧v.cell? (AD p 1)=some b∧v.cell? (AD p 2)=some c∧v.cell? (AD p 3)=some d∧v.cell? (AD p 4)=some e∧v.cell? (AD p 5)=some f∧v.cell? (AD p 6)=some g∧v.cell? (AD p 7)=some h∧v.cell? (AD p 8)=some i:=by
 simp [World.cell?,hh]
theorem Bu {B:Nat} {a w:World} {g:Nat} (h:Below B a w) (hg:B<=g) (x y z u v t:Value):Below B a ((((((w.setCell (AD g 0) x).setCell (AD g 1) y).setCell (AD g 2) z).setCell (AD g 3) u).setCell (AD g 4) v).setCell (AD g 5) t):=
 (((iG h hg x y z).setCell (p:=(AD g 3)) hg u).setCell (p:=(AD g 4)) hg v).setCell (p:=(AD g 5)) hg t
theorem AP {B:Nat} {a w:World} {g:Nat} (h:Below B a w) (hg:B<=g) (x y z u v t p q r:Value):Below B a (((((((((w.setCell (AD g 0) x).setCell (AD g 1) y).setCell (AD g 2) z).setCell (AD g 3) u).setCell (AD g 4) v).setCell (AD g 5) t).setCell (AD g 6) p).setCell (AD g 7) q).setCell (AD g 8) r):=
 (((Bu h hg x y z u v t).setCell (p:=(AD g 6)) hg p).setCell (p:=(AD g 7)) hg q).setCell (p:=(AD g 8)) hg r
theorem gb9 (w:World) (g:Nat) (x y z u v t p q r:Value):w.grownBy (((((((((w.setCell (AD g 0) x).setCell (AD g 1) y).setCell (AD g 2) z).setCell (AD g 3) u).setCell (AD g 4) v).setCell (AD g 5) t).setCell (AD g 6) p).setCell (AD g 7) q).setCell (AD g 8) r) (some g):=
 aj (aj (aj (aj (aj (aj (aj (aj (aj (cC w (some g)) 0 x) 1 y) 2 z) 3 u) 4 v) 5 t) 6 p) 7 q) 8 r
theorem vY {v:World} {p:Nat} {T:TypeId} {cs:Array Value} (hh:v.heap[p]?=some (.cells cs T (0,0))) (i:Nat):v.frozen? (AD p i)=false:=by
 simp [World.frozen?,hh]
def KAt (w:World) (v:Value) (k:KM):Prop:=
 ∃a1 c1 a2 c2 a3 c3,v=.agg #[VI k.i.sets,VI k.i.ways,.slice a1 k.i.es.length c1,VI k.d.sets,VI k.d.ways,.slice a2 k.d.es.length c2,VI k.p.sets,VI k.p.ways,.slice a3 k.p.es.length c3]∧
  TlbAt w (.agg #[VI k.i.sets,VI k.i.ways,.slice a1 k.i.es.length c1]) k.i∧TlbAt w (.agg #[VI k.d.sets,VI k.d.ways,.slice a2 k.d.es.length c2]) k.d∧TlbAt w (.agg #[VI k.p.sets,VI k.p.ways,.slice a3 k.p.es.length c3]) k.p
theorem KAt.keep {w w':World} {v:Value} {k:KM} (h:KAt w v k) (hb:Bw w w'):KAt w' v k:=by
 obtain ⟨a1,c1,a2,c2,a3,c3,rfl,h1,h2,h3⟩:=h;exact ⟨a1,c1,a2,c2,a3,c3,rfl,h1.keep hb,h2.keep hb,h3.keep hb⟩
theorem BC (v:Value) (k:KM) (w:World) (h:KAt w v k):
 Calls Tryz.prog 116 #[v] w fun e w'=>e=.returned (.bool (bj k))∧Bw w w':=by
 obtain ⟨a1,c1,a2,c2,a3,c3,rfl,t1,t2,t3⟩:=h;obtain ⟨q1,hq1⟩:∃q,aF k.i false=q:=⟨_,rfl⟩;obtain ⟨q2,hq2⟩:∃q,aF k.d false=q:=⟨_,rfl⟩;obtain ⟨q3,hq3⟩:∃q,aF k.p true=q:=⟨_,rfl⟩;unfold bj;rw [hq1,hq2,hq3];have n1:=(Below.refl w.heap.size w).alloc nle (Obj.cells #[VI k.i.sets,VI k.i.ways,.slice a1 k.i.es.length c1,VI k.d.sets,VI k.d.ways,.slice a2 k.d.es.length c2,VI k.p.sets,VI k.p.ways,.slice a3 k.p.es.length c3] 42);have HV1:Hid (∀v,Bw w v->Calls Tryz.prog 134 #[.agg #[VI k.i.sets,VI k.i.ways,.slice a1 k.i.es.length c1],.bool false] v fun e w'=>e=.returned (.bool q1)∧Bw v w'):=fun v hv=>by
  have:=BI _ _ false v (t1.keep hv);rw [hq1] at this;exact this
 have HV2:Hid (∀v,Bw w v->Calls Tryz.prog 134 #[.agg #[VI k.d.sets,VI k.d.ways,.slice a2 k.d.es.length c2],.bool false] v fun e w'=>e=.returned (.bool q2)∧Bw v w'):=fun v hv=>by
  have:=BI _ _ false v (t2.keep hv);rw [hq2] at this;exact this
 have HV3:Hid (∀v,Bw w v->Calls Tryz.prog 134 #[.agg #[VI k.p.sets,VI k.p.ways,.slice a3 k.p.es.length c3],.bool true] v fun e w'=>e=.returned (.bool q3)∧Bw v w'):=fun v hv=>by
  have:=BI _ _ true v (t3.keep hv);rw [hq3] at this;exact this
 have H1:Hid (∀v,Below (w.heap.size+1) (w.alloc (Obj.cells #[VI k.i.sets,VI k.i.ways,.slice a1 k.i.es.length c1,VI k.d.sets,VI k.d.ways,.slice a2 k.d.es.length c2,VI k.p.sets,VI k.p.ways,.slice a3 k.p.es.length c3] 42)) v->v.heap[w.heap.size]?=some (.cells #[VI k.i.sets,VI k.i.ways,.slice a1 k.i.es.length c1,VI k.d.sets,VI k.d.ways,.slice a2 k.d.es.length c2,VI k.p.sets,VI k.p.ways,.slice a3 k.p.es.length c3] 42 (0,0))):=
  fun v hv=>(hv.block w.heap.size (by omega)).trans (dN w _)
 clear t1 t2 t3 hq1 hq2 hq3;generalize k.i.sets=s1 at *;generalize k.i.ways=w1 at *;generalize k.i.es.length=m1 at *;generalize k.d.sets=s2 at *;generalize k.d.ways=w2 at *;generalize k.d.es.length=m2 at *;generalize k.p.sets=s3 at *;generalize k.p.ways=w3 at *;generalize k.p.es.length=m3 at *;cases q1
 ·go_enter Tryz.func116,Tryz.ntmps116;go_wp2_with fail;refine (HV1.out _ n1).mono ?_;rintro e v2 ⟨rfl,n2⟩;have n12:=bst n1 n2;go_wp2;go_ret;exact ⟨rfl,n12⟩
 ·go_enter Tryz.func116,Tryz.ntmps116;go_wp2_with fail;refine (HV1.out _ n1).mono ?_;rintro e v2 ⟨rfl,n2⟩;have n12:=bst n1 n2;have K2:=jP (H1.out v2 (n2.mono (by simp)));obtain ⟨x0,x1,x2,x3,x4,x5,x6,x7,x8⟩:=K2;cases q2
  ·go_wp2_with fail;refine (HV2.out _ n12).mono ?_;rintro e v3 ⟨rfl,n3⟩;have n13:=bst n12 n3;go_wp2;go_ret;exact ⟨rfl,n13⟩
  ·go_wp2_with fail;refine (HV2.out _ n12).mono ?_;rintro e v3 ⟨rfl,n3⟩;have n13:=bst n12 n3;have n23:=bst n2 n3;clear x0 x1 x2 x3 x4 x5 x6 x7 x8;have K3:=jP (H1.out v3 (n23.mono (by simp)));obtain ⟨x0,x1,x2,x3,x4,x5,x6,x7,x8⟩:=K3;go_wp2_with fail;refine (HV3.out _ n13).mono ?_;rintro e v4 ⟨rfl,n4⟩;have n14:=bst n13 n4;go_wp2;go_ret;exact ⟨by simp,n14⟩
theorem Es (level va satp pte:Int) (w:World) (hl0:0<=level) (hl2:level<=2) (hv0:0<=va) (hv1:va<=18446744073709551615) (hs0:0<=satp) (hs1:satp<=18446744073709551615) (hp0:0<=pte) (hp1:pte<=18446744073709551615):
 Calls Tryz.prog 121 #[VI level,VU va,VU satp,VU pte] w fun e w'=>e=.returned (AQ (fw level va satp pte))∧Bw w w':=by
 unfold AQ fw;simp only;have n1:=(Below.refl w.heap.size w).alloc nle (Obj.cells #[.bool false,VI 0,VU 0,VU 0,.bool false,VU 0] 154);go_enter Tryz.func121,Tryz.ntmps121;go_wp2_with (first
  | (go_at_call 38;refine (Dk va level _ hv0 hv1 hl0 hl2).mono ?_;rintro e w' ⟨rfl,nq,rfl⟩)
  | (go_at_call 37;refine (Dr satp _ hs0 hs1).mono ?_;rintro e w' ⟨rfl,nr,rfl⟩)
  | (go_at_call 41;refine (eo pte 5 32 _ hp0 hp1 (by omega) (by omega) rfl).mono ?_;rintro e w' ⟨rfl,ns,rfl⟩))
 exact bodyPost_ret (v:=.agg #[.bool true,VI level,VU (cG va level),VU (aB satp),.bool (aZ pte 32),VU pte]) (by simp [results,Tryz.results121,go_sem]) rfl ⟨rfl,Bu (below_drewN n1 _) nle _ _ _ _ _ _⟩
def KOwn (base:Nat) (w:World) (v:Value) (k:KM):Prop:=
 ∃g1 c1 g2 c2 g3 c3,v=.agg #[VI k.i.sets,VI k.i.ways,SL g1 k.i.es.length c1,VI k.d.sets,VI k.d.ways,SL g2 k.d.es.length c2,VI k.p.sets,VI k.p.ways,SL g3 k.p.es.length c3]∧
  w.ownsRow base 154 6 (SL g1 k.i.es.length c1) k.i.es.length (bE k.i.es)∧w.ownsRow base 154 6 (SL g2 k.d.es.length c2) k.d.es.length (bE k.d.es)∧w.ownsRow base 154 6 (SL g3 k.p.es.length c3) k.p.es.length (bE k.p.es)
theorem B0 (v:Value) (k:KM) (w:World) (h:KAt w v k):
 Calls Tryz.prog 65 #[v] w fun e w'=>(∃x,e=.returned x∧KOwn w.heap.size w' x k)∧Bw w w':=by
 obtain ⟨a1,c1,a2,c2,a3,c3,rfl,t1,t2,t3⟩:=h;have HL1:=hid fun v (hv:Bw w v)=>Ce _ _ v (t1.keep hv);have HL2:=hid fun v (hv:Bw w v)=>Ce _ _ v (t2.keep hv);have HL3:=hid fun v (hv:Bw w v)=>Ce _ _ v (t3.keep hv);clear t1 t2 t3;unfold TlbOwn at HL1 HL2 HL3;unfold KOwn;generalize k.i.es=e1 at *;generalize k.d.es=e2 at *;generalize k.p.es=e3 at *;generalize k.i.sets=s1 at *;generalize k.i.ways=w1 at *;generalize k.d.sets=s2 at *;generalize k.d.ways=w2 at *;generalize k.p.sets=s3 at *;generalize k.p.ways=w3 at *;obtain ⟨m1,hm1⟩:∃m,e1.length=m:=⟨_,rfl⟩;obtain ⟨m2,hm2⟩:∃m,e2.length=m:=⟨_,rfl⟩;obtain ⟨m3,hm3⟩:∃m,e3.length=m:=⟨_,rfl⟩;rw [hm1] at HL1 |-;rw [hm2] at HL2 |-;rw [hm3] at HL3 |-;clear hm1 hm2 hm3;generalize bE e1=q1 at *;generalize bE e2=q2 at *;generalize bE e3=q3 at *;obtain ⟨v1,Ev1,n1,H1,H2,l1⟩:=al2 w #[VI s1,VI w1,.slice a1 m1 c1,VI s2,VI w2,.slice a2 m2 c2,VI s3,VI w3,.slice a3 m3 c3] #[VI 0,VI 0,SN,VI 0,VI 0,SN,VI 0,VI 0,SN] 42 42;go_enter Tryz.func65,Tryz.ntmps65;go_wp2_with fail;rw [Ev1.out];clear Ev1;have HC:=hid fun v (hv:Bw v1 v)=>jP (ag H1.out hv (by omega));obtain ⟨b0,b1,b2,b3,b4,b5,b6,b7,b8⟩:=HC.out v1 brf;have i1:w.heap.size+1≠w.heap.size:=by omega
 have i2:w.heap.size≠w.heap.size+1:=by omega
 go_region_held3 (fun w'=>w'.cell? (AD w.heap.size 0)=some (VI s1)∧w'.cell? (AD w.heap.size 1)=some (VI w1)∧w'.cell? (AD w.heap.size 2)=some (.slice a1 m1 c1)∧w'.cell? (AD w.heap.size 3)=some (VI s2)∧w'.cell? (AD w.heap.size 4)=some (VI w2)∧w'.cell? (AD w.heap.size 5)=some (.slice a2 m2 c2)∧w'.cell? (AD w.heap.size 6)=some (VI s3)∧w'.cell? (AD w.heap.size 7)=some (VI w3)∧w'.cell? (AD w.heap.size 8)=some (.slice a3 m3 c3)) (go_keep)
  (first
   | (go_at_call_of 66 (Value.agg #[VI s1,VI w1,Value.slice a1 m1 c1]);refine (HL1.out _ (bst n1 (Below.refl v1.heap.size v1).drew)).mono ?_;rintro e y1 ⟨⟨x1,rfl,g1,d1,rfl,o1⟩,n1'⟩;have my1:Bw v1 y1:=bst (Below.refl v1.heap.size v1).drew n1';have kk:=HC.out y1 my1;obtain ⟨z10,z11,z12,z13,z14,z15,z16,z17,z18⟩:=kk;have OO1:Hid _:=o1;clear o1)
   | (go_at_call_of 66 (Value.agg #[VI s2,VI w2,Value.slice a2 m2 c2]);refine (HL2.out _ (bst n1 my1)).mono ?_;rintro e y2 ⟨⟨x2,rfl,g2,d2,rfl,o2⟩,n2'⟩;have my2:Bw v1 y2:=bst my1 n2';have kk:=HC.out y2 my2;obtain ⟨z20,z21,z22,z23,z24,z25,z26,z27,z28⟩:=kk;have OO2:Hid _:=o2;clear o2;have OP1:Hid _:=cB OO1.out n2';clear OO1)
   | (go_at_call_of 66 (Value.agg #[VI s3,VI w3,Value.slice a3 m3 c3]);refine (HL3.out _ (bst n1 my2)).mono ?_;rintro e y3 ⟨⟨x3,rfl,g3,d3,rfl,o3⟩,n3'⟩;have my3:Bw v1 y3:=bst my2 n3';have kk:=HC.out y3 my3;obtain ⟨z30,z31,z32,z33,z34,z35,z36,z37,z38⟩:=kk;have OO3:Hid _:=o3;clear o3;have OP1':Hid _:=cB OP1.out n3';have OP2:Hid _:=cB OO2.out n3';clear OP1 OO2;have F3:=ae H2 my3;have ff:=vY F3.out;have f0:=ff 0;have f1:=ff 1;have f2:=ff 2;have f3:=ff 3;have f4:=ff 4;have f5:=ff 5;have f6:=ff 6;have f7:=ff 7;have f8:=ff 8;have kk:=jP F3.out;obtain ⟨j0,j1,j2,j3,j4,j5,j6,j7,j8⟩:=kk;clear ff))
 go_wp2_with fail;have r1:=ltl l1 my1.size;have r2:=ltl l1 my2.size;exact bodyPost_ret (v:=.agg #[VI s1,VI w1,SL g1 m1 d1,VI s2,VI w2,SL g2 m2 d2,VI s3,VI w3,SL g3 m3 d3]) (by simp [results,Tryz.results65,go_sem,j0,j1,j2,j3,j4,j5,j6,j7,j8]) rfl
  ⟨⟨_,rfl,g1,d1,g2,d2,g3,d3,rfl,bD (ao OP1'.out (gb9 y3 (w.heap.size+1) _ _ _ _ _ _ _ _ _) l1) (Nat.le_of_lt (Nat.lt_trans (Nat.lt_succ_self _) l1)),bD (ao OP2.out (gb9 y3 (w.heap.size+1) _ _ _ _ _ _ _ _ _) r1) (by omega),bD (ao OO3.out (gb9 y3 (w.heap.size+1) _ _ _ _ _ _ _ _ _) r2) (by omega)⟩,AP (bst n1 my3) (by omega) _ _ _ _ _ _ _ _ _⟩
theorem KOwn.at {base:Nat} {w:World} {v:Value} {k:KM} (h:KOwn base w v k) (h1:dX k.i) (h2:dX k.d) (h3:dX k.p):KAt w v k:=by
 obtain ⟨g1,c1,g2,c2,g3,c3,rfl,o1,o2,o3⟩:=h;exact ⟨some (AD g1 0),c1,some (AD g2 0),c2,some (AD g3 0),c3,rfl,TlbOwn.at ⟨g1,c1,rfl,o1⟩ h1,TlbOwn.at ⟨g2,c2,rfl,o2⟩ h2,TlbOwn.at ⟨g3,c3,rfl,o3⟩ h3⟩
end
end Go.Proofs.YthdgiakgepmabaaGreat
