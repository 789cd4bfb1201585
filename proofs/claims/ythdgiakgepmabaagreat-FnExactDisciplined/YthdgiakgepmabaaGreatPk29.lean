import Derived.Test.YthdgiakgepmabaaGreatPk28
namespace Go.Proofs.YthdgiakgepmabaaGreat
open Go.RowKit
set_option linter.unusedVariables false
set_option maxHeartbeats 6400000
set_option maxRecDepth 20000
section
attribute [local go_sem ↓] Go.wp_at_zero Go.wp_at_succ
theorem Dh (v:Value) (t:TlbM) (k:Int) (w:World) (h:TlbAt w v t) (hn0:0<t.es.length) (hk:0<=k∧k<=255):
 Calls Tryz.prog 31 #[v,VI k] w fun e w'=>(∃x,e=.returned x∧TlbOwn w.heap.size w' x (cu t k))∧Bw w w':=by
 have HT:Hid (TlbAt w v t):=h;obtain ⟨a,cap,rfl,hr,_,_,_,hl,hlc,hcm,hnil,hsp⟩:=h;obtain ⟨sets,ways,es⟩:=t;obtain ⟨n,hn⟩:∃n,es.length=n:=⟨_,rfl⟩;simp only at hr hl hlc hnil hn0 HT |-;have HN:Hid (es.length=n):=hn;rw [hn] at hr hl hlc hnil HT hn0 |-;obtain ⟨j,hjr,hj⟩:∃j:Nat,k.tmod (n:Int)=j∧j<n:=by
  refine ⟨(k%(n:Int)).toNat,?_,?_⟩
  ·rw [Int.tmod_eq_emod_of_nonneg hk.1];have:=Int.emod_nonneg k (show (n:Int)≠0 by omega);omega
  ·have:=Int.emod_nonneg k (show (n:Int)≠0 by omega);have:=Int.emod_lt_of_pos k (show 0<(n:Int) by omega);omega
 have HRm:Hid (k.tmod (n:Int)=j):=hjr;have HX:Hid (cu ⟨sets,ways,es⟩ k=⟨sets,ways,es.set j bC⟩):=by
  show _=_;unfold cu;simp only;rw [hn,show (k%(n:Int)).toNat=j by rw [Int.tmod_eq_emod_of_nonneg hk.1] at hjr;omega]
 obtain ⟨X,hX⟩:∃X,cu ⟨sets,ways,es⟩ k=X:=⟨_,rfl⟩;rw [hX];rw [hX] at HX;have HN0:Hid (¬n=0):=by show ¬_;omega
 clear hX hr hnil hsp hn hjr;go_enter Tryz.func31,Tryz.ntmps31;go_wp2_with fail;obtain ⟨v1,Ev1,F⟩:=ax2 w #[VI sets,VI ways,.slice a n cap] #[VI 0,VI 0,SN] 40 40;rw [Ev1.out];clear Ev1;obtain ⟨h3,h6,l1,n1⟩:=F;have H6:Hid _:=h6;have b2:w.heap.size+1<v1.heap.size:=by omega
 clear h3 h6 l1;refine (Ce _ ⟨sets,ways,es⟩ v1 (HT.out.keep n1)).mono ?_;rintro e v2 ⟨⟨x,rfl,g,cp,rfl,o2⟩,n2⟩;simp only at o2 |-;rw [HN.out] at o2 |-;obtain ⟨_,hg1,hg2⟩:=bx o2;simp only at hg1 hg2;have O2:Hid (v2.ownsRow v1.heap.size 154 6 (SL g n cp) n (bE es)):=o2;have K6:Hid _:=ag H6.out n2 b2;have l2:=n2.size;have n12:=bst n1 n2;clear o2 n2 H6 n1;go_upto_region 2 with fail;obtain ⟨v3,Ev3,F⟩:=ax1 v2 #[VI sets,VI ways,SL g n cp] 40;rw [Ev3.out];clear Ev3;obtain ⟨h5,l3,n3⟩:=F;have H5:Hid (v3.heap[v2.heap.size]?=some (.cells #[VI sets,VI ways,SL g n cp] 40 (0,0))):=h5;have O3:Hid (v3.ownsRow v1.heap.size 154 6 (SL g n cp) n (bE es)):=cB O2.out n3;have J6:Hid _:=ag K6.out n3 (by omega);have n13:=bst n12 n3;have b3:v2.heap.size<v3.heap.size:=by omega
 clear h5 l3 O2 K6 n12 n3;obtain ⟨⟨p0,p1,p2⟩,_,_,_⟩:=au H5.out;have HLs:Hid (∀u:World,u.cell? (AD v2.heap.size 2)=some (SL g n cp)->(Instr.loadAt 38 (PT v2.heap.size 2)).run Tryz.prog u=.ok (SL g n cp) u):=fun u hu=>by go_simp
 have hF:v3.drew.cell? (AD v2.heap.size 2)=some (SL g n cp):=by simpa using p2
 clear p0 p1 p2;refine ax (fun u=>u.cell? (AD v2.heap.size 2)=some (SL g n cp)) 9 ?_;refine ak 0 8 (PT v2.heap.size 2) rfl hF ?_
 go_frame
 refine ak 1 9 (SL g n cp) rfl hF ?_ (hy:=fun u hu=>aP rfl (HLs.out u hu));refine ak 2 10 (VI k) rfl hF ?_;refine ak 3 11 (PT v2.heap.size 2) rfl hF ?_
 go_frame
 refine ak 4 12 (SL g n cp) rfl hF ?_ (hy:=fun u hu=>aP rfl (HLs.out u hu));refine ak 5 13 (VI n) rfl hF ?_
 go_frame
 refine ak 6 14 (VI j) rfl hF ?_ (hy:=fun u hu=>(by have h1:=HRm.out;have h2:=HN0.out;go_simp));refine ak 7 15 (.agg #[.bool false,VI 0,VU 0,VU 0,.bool false,VU 0]) rfl hF ?_
 go_frame
 refine ak 8 16 (.pointer (some ⟨g,j*6,none⟩)) rfl hF ?_ (hy:=fun u hu=>(by have h1:=hj;go_simp))
 go_frame
 have hcl:(bE es).length=n*6:=by rw [fO,HN.out]
 have O4:Hid (v3.drew.ownsRow v1.heap.size 154 6 (SL g n cp) n (bE es)):=cB O3.out ((brf).drew);have n13d:=n13.drew;have H5d:Hid (v3.drew.heap[v2.heap.size]?=some (.cells #[VI sets,VI ways,SL g n cp] 40 (0,0))):=H5.out;have J6d:Hid (v3.drew.heap[w.heap.size+1]?=some (.cells #[VI 0,VI 0,SN] 40 (0,0))):=J6.out;have hsd:v3.heap.size<=v3.drew.heap.size:=nle;clear hF HLs H5 J6 n13 O3;generalize v3.drew=vd at O4 n13d H5d J6d hsd |-;have q0:=aK O4.out (j*6) _ (geg (by omega));have q1:=aK O4.out (j*6+1) _ (geg (by omega));have q2:=aK O4.out (j*6+2) _ (geg (by omega));have q3:=aK O4.out (j*6+3) _ (geg (by omega));have q4:=aK O4.out (j*6+4) _ (geg (by omega));have q5:=aK O4.out (j*6+5) _ (geg (by omega));generalize (bE es)[j*6]'_=y0 at q0;generalize (bE es)[j*6+1]'_=y1 at q1;generalize (bE es)[j*6+2]'_=y2 at q2;generalize (bE es)[j*6+3]'_=y3 at q3;generalize (bE es)[j*6+4]'_=y4 at q4;generalize (bE es)[j*6+5]'_=y5 at q5;have r0:=aT O4.out (j*6);have r1:=aT O4.out (j*6+1);have r2:=aT O4.out (j*6+2);have r3:=aT O4.out (j*6+3);have r4:=aT O4.out (j*6+4);have r5:=aT O4.out (j*6+5);have HS:(Instr.storeAt 154 (.pointer (some ⟨g,j*6,none⟩)) (.agg #[.bool false,VI 0,VU 0,VU 0,.bool false,VU 0])).run Tryz.prog vd=.ok () ((((((vd.setCell ⟨g,j*6,none⟩ (.bool false)).setCell ⟨g,j*6+1,none⟩ (VI 0)).setCell ⟨g,j*6+2,none⟩ (VU 0)).setCell ⟨g,j*6+3,none⟩ (VU 0)).setCell ⟨g,j*6+4,none⟩ (.bool false)).setCell ⟨g,j*6+5,none⟩ (VU 0)):=by go_simp
 refine dM 9 16 15 rfl HS ?_;refine de ?_;clear q0 q1 q2 q3 q4 q5 r0 r1 r2 r3 r4 r5 HS;have gS:=aj (aj (aj (aj (aj (aj (cC vd (some g)) (j*6) (.bool false)) (j*6+1) (VI 0)) (j*6+2) (VU 0)) (j*6+3) (VU 0)) (j*6+4) (.bool false)) (j*6+5) (VU 0);have O5:Hid _:=aJ (aJ (aJ (aJ (aJ (aJ O4.out (j*6) (.bool false)) (j*6+1) (VI 0)) (j*6+2) (VU 0)) (j*6+3) (VU 0)) (j*6+4) (.bool false)) (j*6+5) (VU 0);have hes:=Cx es j bC (by rw [HN.out];exact hj);simp only [bC] at hes;rw [<-hes] at O5;generalize (((((vd.setCell ⟨g,j*6,none⟩ (.bool false)).setCell ⟨g,j*6+1,none⟩ (VI 0)).setCell ⟨g,j*6+2,none⟩ (VU 0)).setCell ⟨g,j*6+3,none⟩ (VU 0)).setCell ⟨g,j*6+4,none⟩ (.bool false)).setCell ⟨g,j*6+5,none⟩ (VU 0)=v4 at gS O5 |-;have n14:Bw w v4:=Below.gb n13d gS (by have:=n13d.size;omega) (by omega);have P5:=aq H5d.out gS (by omega);have P6:=aq J6d.out gS (by omega);have l4:vd.heap.size<=v4.heap.size:=gS.size;clear gS n13d hes H5d J6d;obtain ⟨⟨p0,p1,p2⟩,_,_,_⟩:=au P5;obtain ⟨⟨d0,d1,d2⟩,e0,e1,e2⟩:=au P6;have c3:v2.heap.size<v4.heap.size:=by omega
 go_wp2_with fail;refine bodyPost_ret (v:=.agg #[VI sets,VI ways,SL g n cp]) (by simp [results,Tryz.results31,go_sem,d0,d1,d2]) rfl ⟨⟨_,rfl,?_⟩,iG n14 (by omega) _ _ _⟩;rw [HX.out];refine ⟨g,cp,by simp only [List.length_set];rw [HN.out],?_⟩;simp only [List.length_set];rw [HN.out];exact bD (ao O5.out (gb3 v4 (w.heap.size+1) _ _ _) (by omega)) (by omega)
end
section
attribute [local go_sem ↓] Go.wp_at_zero Go.wp_at_succ
def oZ:Nat->Code->Code
 | 0,c=>c
 | n+1,.seq _ c=>oZ n c
 | _+1,c=>c
def Bv:Code->Code
 | .seq c _=>c
 | c=>c
def BA (f:Func):Code:=f.body.getD .skip
def wT (r:RunM):RunM:=el r (dy r.h ((r.h.pc+4)%18446744073709551616))
structure ExecIn (w v:World) (hb:Nat) (p:PtrM) (al:Option Addr) (cl:Nat) (plain:Bool) (pick:Int) (r:RunM):Prop where
 run:v.heap[w.heap.size]?=some (.cells (Bb p al cl plain pick (wT r)) 54 (0,0))
 res:v.heap[w.heap.size+1]?=some (.cells zS 54 (0,0))
 hart:v.heap[hb]?=some (.cells (aA p r.h) 44 (0,0))
 hb:w.heap.size+1<hb
 runIn:RunIn v p al cl (wT r)
 below:Bw w v
 ptrs:∀q,some q∈dW p->q.block<w.heap.size
 looks:∀q,al=some q->q.block<w.heap.size
def Ii (op:Int) (w v:World) (hb a b c:Nat) (P q s word imm jump xa xb xc W pc:Int) (Q:Exit->Act->World->Prop):Prop:=
 ∀K:Act->World->Prop,(∀a w,(oZ 15 (BA Tryz.f70)).wp Tryz.prog Q a w->K a w)->∀(C:Array Value) (u32 u33 u34 u35 u36 u37 u38 u39 u40 u41 u42 u43 u44 u45 u46 u47 u48 u49 u50 u51 u52 u53 u54 u55 u56 u57 u58 u59 u60 u61 u62 u63 u64 u65 u66 u67 u68 u69 u70 u71 u72 u73 u74 u75 u76 u77 u78 u79:Value),(Bv (oZ 14 (BA Tryz.f70))).wp Tryz.prog (Exit.then K Q) ⟨#[.agg C,VI op,VI P,VI q,VI s,VU word,PT w.heap.size 0,undef,undef,undef,undef,undef,PT (w.heap.size+1) 0,PT hb 0,VI (a:Nat),VI (b:Nat),VI (c:Nat),VU imm,VU jump,VU xa,VU xb,VU xc,VI W,VU pc,undef,undef,undef,undef,undef,undef,undef,undef,u32,u33,u34,u35,u36,u37,u38,u39,u40,u41,u42,u43,u44,u45,u46,u47,u48,u49,u50,u51,u52,u53,u54,u55,u56,u57,u58,u59,u60,u61,u62,u63,u64,u65,u66,u67,u68,u69,u70,u71,u72,u73,u74,u75,u76,u77,u78,u79,undef,undef,undef,undef,undef,undef,undef,undef,undef,undef,undef,undef,undef,undef,undef,undef,undef,undef,undef,undef,undef,undef,undef,undef,undef,undef,undef,undef,undef,undef,undef,undef,undef,undef,undef,undef,undef,undef,undef,undef,undef,undef,undef,undef,undef,undef,undef,undef,undef,undef,undef,undef,undef,undef,undef,undef,undef,undef,undef,undef,undef,undef,undef,undef,undef,undef,undef,undef,undef,undef,undef,undef,undef,undef,undef,undef,undef,undef,undef,undef,undef,undef,undef,undef,undef,undef,undef,undef,undef,undef,undef,undef,undef,undef,undef,undef,undef,undef,undef,undef,undef,undef,undef,undef,undef,undef,undef,undef,undef,undef,undef,undef,undef,undef,undef,undef,undef,undef,undef,undef,undef,undef,undef,undef,undef,undef,undef,undef,undef,undef,undef,undef,undef,undef,undef,undef,undef,undef,undef,undef,undef,undef,undef,undef,undef,undef,undef,undef,undef,undef,undef,undef,undef,undef,undef,undef,undef,undef,undef,undef,undef,undef,undef,undef,undef,undef,undef,undef,undef,undef,undef,undef,undef,undef,undef,undef,undef,undef,undef,undef,undef,undef,undef,undef,undef,undef,undef,undef,undef,undef,undef,undef,undef,undef,undef,undef,undef,undef,undef,undef,undef,undef,undef,undef,undef,undef,undef,undef,undef,undef,undef,undef,undef,undef,undef,undef,undef,undef,undef,undef,undef,undef,undef,undef,undef,undef,undef,undef,undef,undef,undef,undef,undef,undef,undef,undef,undef,undef,undef,undef,undef,undef,undef,undef,undef,undef,undef,undef],[]⟩ v
theorem FO (p:PtrM) (al:Option Addr) (cl:Nat) (plain:Bool) (pick:Int) (r:RunM) (op P q s word:Int) (w:World) (hr:RunIn w p al cl r) (hk:ROk r) (hreg:r.h.regs.length=8)
 (hop:0<=op∧op<=255) (hp:0<=P∧P<=255) (hq:0<=q∧q<=255) (hs:0<=s∧s<=255) (R:Ending->World->Prop)
 (H:∀(v:World) (hb a b c:Nat) (imm jump xa xb xc W pc:Int),ExecIn w v hb p al cl plain pick r->P%8=a∧a<8->P/8%8=b∧b<8->q%8=c∧c<8->imm=gY s%18446744073709551616->jump=4*gY s%18446744073709551616->xa=BS r.h a->xb=BS r.h b->xc=BS r.h c->W=jY ((c:Int)%4)->pc=r.h.pc->Ii op w v hb a b c P q s word imm jump xa xb xc W pc (bodyPost Tryz.prog Tryz.f70 R)):
  Calls Tryz.prog 70 #[.agg (Bb p al cl plain pick r),VI op,VI P,VI q,VI s,VU word] w R:=by
 have HH:Hid _:=H;clear H;have HX:Hid (∀(C:Array Value),Bb p al cl plain pick r=C->Bb p al cl plain pick (wT r)=C.setIfInBounds 2 (VU ((r.h.pc+4)%18446744073709551616))):=fun C h=>by rw [<-h];rfl
 have HI:=hid hr;have HOK:=hid hk;have hsz:=ef p al cl plain pick r;have HHt:Hid (((Bb p al cl plain pick r).toList.drop 0).take 21=(aA p r.h).toList):=rfl;have hhs:=gI p r.h;have gH1:(aA p r.h)[1]?=some (.slice p.ar r.h.regs.length p.cr):=rfl;have gH2:(aA p r.h)[2]?=some (VU r.h.pc):=rfl;have gC2:(Bb p al cl plain pick r)[2]?=some (VU r.h.pc):=rfl;have HHo:=hid (wW p r.h);have hpt:=hr.h.low;have hlo:=hr.low;generalize hC:Bb p al cl plain pick r=C at hsz HHt gC2 |-;have HC:Hid _:=hC;generalize hD:aA p r.h=D at HHt hhs gH1 gH2 HHo;have HD:Hid _:=hD;clear hr hk hC hD;go_enter Tryz.func70,Tryz.ntmps70;go_upto_region 1 with fail;obtain ⟨v1,Ev1,F⟩:=ax2 w C zS 54 54;rw [Ev1.out];clear Ev1;obtain ⟨h3,h6,l1,n1⟩:=F;have H3:Hid _:=h3;have H6:Hid _:=h6;have b1:w.heap.size<v1.heap.size:=by omega
 have b2:w.heap.size+1<v1.heap.size:=by omega
 clear h3 h6 l1;have HLh:Hid _:=hU (P:=Tryz.prog) (T:=44) H3.out Tryz.underlying44 rfl (o:=0) D.toList ph HHt.out (by rw [Array.length_toList,hhs]);simp only [Array.toArray_toList] at HLh;have a1:=ew v1 mB 44;have HSh:Hid _:=dh (P:=Tryz.prog) (T:=44) (V:=D) a1.1 (by rw [hhs];exact ph) (by rw [hhs,mC]) HHo.out;have K5:Hid _:=cD (V:=D) a1.1 (by rw [hhs,mC]);have n2:=bst n1 a1.2.2;have n3:=dn (show w.heap.size<=v1.heap.size by omega) D.toList 0 _ n2;have K3:Hid _:=Cd (ag H3.out a1.2.2 b1) 0 D.toList (show w.heap.size≠v1.heap.size by omega);have K6:Hid _:=Cd (ag H6.out a1.2.2 b2) 0 D.toList (show w.heap.size+1≠v1.heap.size by omega);have s2:v1.heap.size<((v1.alloc (Obj.cells mB 44)).setCells v1.heap.size 0 D.toList).heap.size:=by rw [fP];omega
 clear a1;go_upto_region 2 with (first
  | ((with_reducible refine ja ?_ HLh.out ?_);(exact rfl))
  | ((with_reducible refine bI ?_ ?_ HSh.out ?_);(exact rfl);(exact rfl)))
 generalize (v1.alloc (Obj.cells mB 44)).setCells v1.heap.size 0 D.toList=v2 at K3 K5 K6 n3 s2 |-;clear HLh HSh n2 H3 H6 n1;obtain ⟨hp1,hp2⟩:=hp;obtain ⟨hq1,hq2⟩:=hq;obtain ⟨hs1,hs2⟩:=hs;obtain ⟨a,ha,ha8⟩:∃a:Nat,P%8=a∧a<8:=⟨(P%8).toNat,by omega,by omega⟩;obtain ⟨b,hb,hb8⟩:∃b:Nat,P/8%8=b∧b<8:=⟨(P/8%8).toNat,by omega,by omega⟩;obtain ⟨c,hc,hc8⟩:∃c:Nat,q%8=c∧c<8:=⟨(q%8).toNat,by omega,by omega⟩;obtain ⟨W,hW⟩:∃W,jY ((c:Int)%4)=W:=⟨_,rfl⟩;have HW:Hid (W=2^((c:Int)%4).toNat):=hW.symm;have hW1:1<=W∧W<=8:=by
  rw [<-hW];have hc4:(c:Int)%4=0∨(c:Int)%4=1∨(c:Int)%4=2∨(c:Int)%4=3:=by omega
  rcases hc4 with h | h | h | h <;> rw [h] <;> decide
 obtain ⟨hW1,hW8⟩:=hW1;have HWm:Hid (jY ((c:Int)%4)=W):=hW;clear hW;rcases HI.out.h.regs.2 with h0 | ⟨rb,ro,har,hrlt,hcell⟩
 ·omega
 rw [har,hreg] at gH1;have hrw:rb<v2.heap.size:=ltl hrlt n3.size;have HCl:Hid (∀n:Nat,n<8->v2.cell? ⟨rb,ro+n,none⟩=some (VU (BS r.h n))):=fun n hn=>Below.cell2 n3 (hcell n _ (xE r.h.regs n (by omega))) hrlt;have ca:=HCl.out a ha8;have cb:=HCl.out b hb8;have cc:=HCl.out c hc8;have k1:=ce K5.out 1 gH1;have k2:=ce K5.out 2 gH2;have k3:=ce K3.out 2 gC2;have k4:=ay K3.out 2;have hpc:=HOK.out.h.pc;have hcr:=HI.out.h.regc;rw [hreg] at hcr;have b3:w.heap.size<v2.heap.size:=by omega
 obtain ⟨xa,hxa⟩:∃xa,BS r.h a=xa:=⟨_,rfl⟩;obtain ⟨xb,hxb⟩:∃xb,BS r.h b=xb:=⟨_,rfl⟩;obtain ⟨xc,hxc⟩:∃xc,BS r.h c=xc:=⟨_,rfl⟩;obtain ⟨pc,hpc'⟩:∃pc,r.h.pc=pc:=⟨_,rfl⟩;rw [hxa] at ca;rw [hxb] at cb;rw [hxc] at cc;rw [hpc'] at k2 k3 hpc;have HXa:=hid hxa.symm;have HXb:=hid hxb.symm;have HXc:=hid hxc.symm;have HPc:=hid hpc'.symm;have HpA:Hid (P%8=a∧a<8):=⟨ha,ha8⟩;have HpB:Hid (P/8%8=b∧b<8):=⟨hb,hb8⟩;have HpC:Hid (q%8=c∧c<8):=⟨hc,hc8⟩;clear hxa hxb hxc hpc';have hpc1:=hpc.1;have hpc2:=hpc.2;clear hpc;have HE:Hid (ExecIn w (v2.setCell (AD w.heap.size 2) (VU (IntKind.u64.wrap (pc+4)))) v1.heap.size p al cl plain pick r):=by
  have hwr:IntKind.u64.wrap (pc+4)=(r.h.pc+4)%18446744073709551616:=by rw [HPc.out];rfl
  have nn:=eO n3 nle 2 (VU (IntKind.u64.wrap (pc+4)));refine ⟨?_,qV K6.out 2 _ (by omega),?_,by omega,?_,nn,hpt,hlo⟩
  ·rw [HX.out C HC.out,<-hwr];exact cV K3.out 2 _
  ·rw [HD.out];exact qV K5.out 2 _ (by omega)
  ·have k:=HI.out.keep nn;exact ⟨⟨k.h.mem,k.h.memc,k.h.regs,k.h.regc,k.h.rega,k.h.ks,k.h.low⟩,k.looks,k.lookc,k.looka,k.lookl,k.low⟩
 clear K3 K5 K6 gH1 gH2 gC2;have HX':=HX;clear HX hpt hlo n3;clear hcell;by_cases h128:128<=s
 ·go_upto_region 10 with fail;rw [ha,hb,hc];clear ha hb hc;go_upto_region 13 with fail;go_upto_region 14 with (go_at_call 62;refine (ge ((c:Int)%4) W _ (by omega) HW.out).mono ?_;rintro e w' ⟨rfl,rfl⟩);go_upto_region 16 with fail;refine HH.out _ v1.heap.size a b c _ _ xa xb xc W pc HE.out HpA.out HpB.out HpC.out ?_ ?_ HXa.out HXb.out HXc.out HWm.out.symm HPc.out _ (by assumption) C _ _ _ _ _ _ _ _ _ _ _ _ _ _ _ _ _ _ _ _ _ _ _ _ _ _ _ _ _ _ _ _ _ _ _ _ _ _ _ _ _ _ _ _ _ _ _ _
  ·unfold gY;rw [if_pos h128];rfl
  ·unfold gY;rw [if_pos h128];rfl
 ·go_upto_region 10 with fail;rw [ha,hb,hc];clear ha hb hc;go_upto_region 13 with fail;go_upto_region 14 with (go_at_call 62;refine (ge ((c:Int)%4) W _ (by omega) HW.out).mono ?_;rintro e w' ⟨rfl,rfl⟩);go_upto_region 16 with fail;refine HH.out _ v1.heap.size a b c _ _ xa xb xc W pc HE.out HpA.out HpB.out HpC.out ?_ ?_ HXa.out HXb.out HXc.out HWm.out.symm HPc.out _ (by assumption) C _ _ _ _ _ _ _ _ _ _ _ _ _ _ _ _ _ _ _ _ _ _ _ _ _ _ _ _ _ _ _ _ _ _ _ _ _ _ _ _ _ _ _ _ _ _ _ _
  ·unfold gY;rw [if_neg (by omega)];omega
  ·unfold gY;rw [if_neg (by omega)];omega
end
section
attribute [local go_sem ↓] Go.wp_at_zero Go.wp_at_succ
def BH (w:World) (p:PtrM) (al:Option Addr) (cl:Nat) (plain:Bool) (pick:Int) (X:RunM):Ending->World->Prop:=fun e w'=>(∃p' al' cl',e=.returned (.agg (Bb p' al' cl' plain pick X))∧RunIn w' p' al' cl' X∧From w.heap.size p p'∧FromL w.heap.size al al')∧Bw w w'
theorem Ip {w v v2:World} {hb:Nat} {p p':PtrM} {al al':Option Addr} {cl cl':Nat} {plain:Bool} {pick:Int} {r X:RunM} (hE:ExecIn w v hb p al cl plain pick r) (hI:RunIn v2 p' al' cl' X) (hF:From v.heap.size p p') (hL:FromL v.heap.size al al') (hn:Bw v v2) (L:List Value):
 BH w p al cl plain pick X (.returned (.agg (Bb p' al' cl' plain pick X))) (v2.setCells (w.heap.size+1) 0 L):=by
 have h1:=(hpl hE.res);have g:=bK (w.heap.size+1) L 0 v2 v2 (cC v2 _);have n:=bst hE.below hn;refine ⟨⟨p',al',cl',rfl,hI.gb g (fun q hq=>?_) (fun q hq=>?_),fun q hq=>?_,fun q hq=>?_⟩,dn (by omega) L 0 v2 n⟩
 ·rcases hF q hq with h | h
  ·have:=hE.ptrs q h;omega
  ·have h':v.heap.size<=q.block:=h;omega
 ·rcases hL q hq with h | h
  ·have:=hE.looks q h;omega
  ·have h':v.heap.size<=q.block:=h;omega
 ·rcases hF q hq with h | h
  ·exact .inl h
  ·exact .inr (Nat.le_trans (by omega) h)
 ·rcases hL q hq with h | h
  ·exact .inl h
  ·exact .inr (Nat.le_trans (by omega) h)
theorem ExecIn.keep {w v v2:World} {hb:Nat} {p:PtrM} {al:Option Addr} {cl:Nat} {plain:Bool} {pick:Int} {r:RunM} (hE:ExecIn w v hb p al cl plain pick r) (hn:Bw v v2):ExecIn w v2 hb p al cl plain pick r:=
 ⟨ag hE.run hn (hpl hE.run),ag hE.res hn (hpl hE.res),ag hE.hart hn (hpl hE.hart),hE.hb,hE.runIn.keep hn,bst hE.below hn,hE.ptrs,hE.looks⟩
theorem Hu {w v v2:World} {hb:Nat} {p:PtrM} {al:Option Addr} {cl:Nat} {plain:Bool} {pick:Int} {r X:RunM} (hE:ExecIn w v hb p al cl plain pick r) (hI:RunIn v2 p al cl X) (hn:Bw w v2) (L:List Value):
 BH w p al cl plain pick X (.returned (.agg (Bb p al cl plain pick X))) (v2.setCells (w.heap.size+1) 0 L):=by
 have g:=bK (w.heap.size+1) L 0 v2 v2 (cC v2 _);refine ⟨⟨p,al,cl,rfl,hI.gb g (fun q hq=>?_) (fun q hq=>?_),fun q hq=>.inl hq,fun q hq=>.inl hq⟩,dn (by omega) L 0 v2 hn⟩
 ·have:=hE.ptrs q hq;omega
 ·have:=hE.looks q hq;omega
theorem Dq (x m:Int):IntKind.u64.wrap (x+m%18446744073709551616)=(x+m)%18446744073709551616:=by
 show (x+m%18446744073709551616)%18446744073709551616=_;omega
theorem ES (n:Nat) (al:Option Addr):FromL n al al:=fun q hq=>.inl hq
theorem Hv (n:Nat) (p:PtrM):From n p p:=fun q hq=>.inl hq
structure EX where
 w:World
 v:World
 hb:Nat
 a:Nat
 b:Nat
 c:Nat
 p:PtrM
 al:Option Addr
 cl:Nat
 plain:Bool
 pick:Int
 r:RunM
 P:Int
 q:Int
 s:Int
 word:Int
 imm:Int
 jump:Int
 xa:Int
 xb:Int
 xc:Int
 W:Int
 pc:Int
structure ExecH (x:EX):Prop where
 E:ExecIn x.w x.v x.hb x.p x.al x.cl x.plain x.pick x.r
 ok:ROk x.r
 reg:x.r.h.regs.length=8
 pk:0<=x.pick∧x.pick<=255
 c0:x.r.cause=0
 ll:x.r.looks.length<=6
 s:0<=x.s∧x.s<=255
 wd:inU x.word
 pa:x.P%8=x.a∧x.a<8
 pb:x.P/8%8=x.b∧x.b<8
 pq:x.q%8=x.c∧x.c<8
 im:x.imm=gY x.s%18446744073709551616
 ju:x.jump=4*gY x.s%18446744073709551616
 xa:x.xa=BS x.r.h x.a
 xb:x.xb=BS x.r.h x.b
 xc:x.xc=BS x.r.h x.c
 W:x.W=jY ((x.c:Int)%4)
 pc:x.pc=x.r.h.pc
def ET (op:Int) (x:EX):Prop:=∀(Q:Exit->Act->World->Prop) (X:RunM),Hid (kC x.plain x.pick x.r op x.P x.q x.s x.word=X)->Hid (bodyPost Tryz.prog Tryz.f70 (BH x.w x.p x.al x.cl x.plain x.pick X)=Q)->Ii op x.w x.v x.hb x.a x.b x.c x.P x.q x.s x.word x.imm x.jump x.xa x.xb x.xc x.W x.pc Q
theorem Dj {w v v2:World} {hb:Nat} {p p':PtrM} {al al':Option Addr} {cl cl':Nat} {plain:Bool} {pick:Int} {r X Y:RunM} {Q:Exit->Act->World->Prop} (hE:ExecIn w v hb p al cl plain pick r) (hI:RunIn v2 p' al' cl' X) (hF:From v.heap.size p p') (hL:FromL v.heap.size al al') (hn:Bw v v2) (hQ:bodyPost Tryz.prog Tryz.f70 (BH w p al cl plain pick Y)=Q) (hY:Y=X):
 ∃u2,Hid ((Instr.storeAt 54 (PT (w.heap.size+1) 0) (.agg (Bb p' al' cl' plain pick X))).run Tryz.prog v2=.ok () u2)∧Hid (∀a:Act,a.tmps[12]?=some (PT (w.heap.size+1) 0)->a.defers=[]->Q .ret a u2):=by
 have hs:=ef p' al' cl' plain pick X;have k6:=ag hE.res hn (hpl hE.res);have hv:=cD (V:=Bb p' al' cl' plain pick X) k6 (by rw [hs,cZ]);refine ⟨_,dh (P:=Tryz.prog) (T:=54) k6 (by rw [hs];exact po) (by rw [hs,cZ]) (rp _ _ _ _ _ _),fun a ha hd=>?_⟩;rw [<-hQ,hY];exact tp (b:=w.heap.size+1) Tryz.results70 ha (dR (P:=Tryz.prog) hv Tryz.underlying54 rfl (by rw [hs];exact po)) hd (Ip hE hI hF hL hn _)
theorem FU {u:World} {b:Nat} {p:PtrM} {al:Option Addr} {cl:Nat} {plain:Bool} {pick:Int} {r:RunM} (h:u.heap[b]?=some (.cells (Bb p al cl plain pick r) 54 (0,0))):Hid ((Instr.loadAt 54 (PT b 0)).run Tryz.prog u=.ok (.agg (Bb p al cl plain pick r)) u):=
 ey (P:=Tryz.prog) (T:=54) h Tryz.underlying54 rfl (by rw [ef];exact po)
structure FS (w:World) (p:PtrM) (al:Option Addr) (cl:Nat) (r:RunM) (A:Array Value) (u:World):Prop where
 run:u.heap[w.heap.size]?=some (.cells A 54 (0,0))
 res:u.heap[w.heap.size+1]?=some (.cells zS 54 (0,0))
 rin:RunIn u p al cl (wT r)
 below:Bw w u
 ptrs:∀q,some q∈dW p->q.block<w.heap.size
 looks:∀q,al=some q->q.block<w.heap.size
theorem FS.of {w v:World} {hb:Nat} {p:PtrM} {al:Option Addr} {cl:Nat} {plain:Bool} {pick:Int} {r:RunM} (h:ExecIn w v hb p al cl plain pick r):FS w p al cl r (Bb p al cl plain pick (wT r)) v:=⟨h.run,h.res,h.runIn,h.below,h.ptrs,h.looks⟩
theorem FS.set {w u:World} {p:PtrM} {al:Option Addr} {cl:Nat} {r:RunM} {A:Array Value} (h:FS w p al cl r A u) (k:Nat) (x:Value):FS w p al cl r (A.setIfInBounds k x) (u.setCell (AD w.heap.size k) x):=
 ⟨cV h.run k x,qV h.res k x (by omega),h.rin.gb (aj (cC u (some w.heap.size)) k x) (fun q hq=>by have:=h.ptrs q hq;omega) (fun q hq=>by have:=h.looks q hq;omega),eO h.below nle k x,h.ptrs,h.looks⟩
theorem FS.step {w u u2:World} {p:PtrM} {al:Option Addr} {cl:Nat} {r:RunM} {A:Array Value} (h:FS w p al cl r A u) (n:Bw u u2):FS w p al cl r A u2:=
 ⟨ag h.run n (hpl h.run),ag h.res n (hpl h.res),h.rin.keep n,bst h.below n,h.ptrs,h.looks⟩
theorem Gh {u:World} {p:PtrM} {al:Option Addr} {cl:Nat} {r X:RunM} (k:RunIn u p al cl r) (hm:X.h.mem=r.h.mem) (hr:X.h.regs=r.h.regs) (hk:X.h.k=r.h.k) (hl:X.looks=r.looks):RunIn u p al cl X:=by
 obtain ⟨⟨k1,k2,k3,k4,k5,k6,k7⟩,k8,k9,k10,k11,k12⟩:=k;rw [<-hm] at k1 k2;rw [<-hr] at k3 k4 k5;rw [<-hk] at k6;rw [<-hl] at k8 k9 k10 k11;exact ⟨⟨k1,k2,k3,k4,k5,k6,k7⟩,k8,k9,k10,k11,k12⟩
theorem FS.fin {w u:World} {p:PtrM} {al:Option Addr} {cl:Nat} {plain:Bool} {pick:Int} {r X:RunM} {A:Array Value} {Q:Exit->Act->World->Prop} (h:FS w p al cl r A u) (hQ:bodyPost Tryz.prog Tryz.f70 (BH w p al cl plain pick X)=Q) (hA:A=Bb p al cl plain pick X) (hm:X.h.mem=(wT r).h.mem) (hr:X.h.regs=(wT r).h.regs) (hk:X.h.k=(wT r).h.k) (hl:X.looks=(wT r).looks):
 ∃E u2,Hid ((Instr.loadAt 54 (PT w.heap.size 0)).run Tryz.prog u=.ok (.agg E) u)∧Hid ((Instr.storeAt 54 (PT (w.heap.size+1) 0) (.agg E)).run Tryz.prog u=.ok () u2)∧Hid (∀a:Act,a.tmps[12]?=some (PT (w.heap.size+1) 0)->a.defers=[]->Q .ret a u2):=by
 subst hA;have hs:=ef p al cl plain pick X;have hI:=Gh (X:=X) h.rin hm hr hk hl;have hv:=cD (V:=Bb p al cl plain pick X) h.res (by rw [hs,cZ]);refine ⟨_,_,FU h.run,dh (P:=Tryz.prog) (T:=54) h.res (by rw [hs];exact po) (by rw [hs,cZ]) (rp _ _ _ _ _ _),fun a ha hd=>?_⟩;rw [<-hQ];refine tp (b:=w.heap.size+1) Tryz.results70 ha (dR (P:=Tryz.prog) hv Tryz.underlying54 rfl (by rw [hs];exact po)) hd ?_;have g:=bK (w.heap.size+1) (Bb p al cl plain pick X).toList 0 u u (cC u _);refine ⟨⟨p,al,cl,rfl,hI.gb g (fun q hq=>?_) (fun q hq=>?_),fun q hq=>.inl hq,fun q hq=>.inl hq⟩,dn (by omega) _ 0 u h.below⟩
 ·have:=h.ptrs q hq;omega
 ·have:=h.looks q hq;omega
def G9 (p:PtrM) (al:Option Addr) (cl:Nat) (plain:Bool) (pick:Int) (X:RunM) (u:World) (e:Ending) (w':World):Prop:=∃p',e=.returned (.agg (Bb p' al cl plain pick X))∧RunIn w' p' al cl X∧From u.heap.size p p'∧Bw u w'
theorem Iq {p:PtrM} {al:Option Addr} {cl:Nat} {plain:Bool} {pick:Int} {r:RunM} {c t:Int} {u:World} (hu:RunIn u p al cl r):Calls Tryz.prog 67 #[.agg (Bb p al cl plain pick r),VI c,VU t] u (G9 p al cl plain pick (cf r c t) u):=by
 refine (Cq p al cl plain pick r c t u).mono ?_;rintro e w' ⟨rfl,n⟩;exact ⟨p,rfl,Gh (hu.keep n) rfl rfl rfl rfl,Hv _ _,n⟩
theorem IP {p:PtrM} {al:Option Addr} {cl:Nat} {plain:Bool} {pick:Int} {r:RunM} {a:Nat} {V:Int} {u:World} (hu:RunIn u p al cl r) (h8:r.h.regs.length=8) (ha:a<8):Calls Tryz.prog 94 #[.agg (Bb p al cl plain pick r),VI (a:Nat),VU V] u (G9 p al cl plain pick (cE r a V) u):=by
 refine (Ck p al cl plain pick r a V u hu (by omega) (by omega) (by omega)).mono ?_;rintro e w' ⟨⟨p',rfl,h1,h2⟩,n⟩;exact ⟨p',rfl,h1,h2,n⟩
theorem exq {R:Ending->World->Prop} {Q:Exit->Act->World->Prop} {f:Func} (h:bodyPost Tryz.prog f R=Q):Hid (∀x (a:Act) d z w,Q (.panic x) (a.put d z) w->Q (.panic x) a w):=by
 show ∀x (a:Act) d z w,Q (.panic x) (a.put d z) w->Q (.panic x) a w;rw [<-h];exact fun _ _ d _ _ h=>by cases d <;> exact h
end
section
attribute [local go_sem ↓] Go.wp_at_zero Go.wp_at_succ
theorem BG (x:EX) (H:ExecH x) (op:Int) (hc:op=1∨op=2∨op=3∨(op=9∨op=10∨op=11)∧x.r.h.mode=0∨(op=12∨op=13)∧x.r.h.mode≠2∨op=13∧x.r.h.mode=2∧2<x.c∨op=14∨op=0∨15<=op∧op<=255):ET op x:=by
 obtain ⟨w,v,hb,a,b,c,p,al,cl,plain,pick,r,P,q,s,word,imm,jump,xa,xb,xc,W,pc⟩:=x;obtain ⟨hE,hok,hreg,hpk,h0,hll,hs,hwd,hpa,hpb,hpc,him,hju,hxa,hxb,hxc,hW,hpcc⟩:=H;intro Q X HX HQ K hK C
 intros
 dsimp only at *;simp only [Bv,oZ,BA,Tryz.f70,Option.getD] at hK |-;have k3:=ce hE.hart 3 (show (aA p r.h)[3]?=some (VI r.h.mode) from rfl);have hbv:=(hpl hE.hart);have HE:=hid hE;have hmo:=hok.h.v.mode;have HT:Hid (∀c t,X=cf (wT r) c t->∀u,RunIn u p al cl (wT r)->Calls Tryz.prog 67 #[.agg (Bb p al cl plain pick (wT r)),VI c,VU t] u (G9 p al cl plain pick X u)):=fun c t h u hu=>by rw [h];exact Iq hu
 have HS:Hid (∀V,X=cE (wT r) a V->∀u,RunIn u p al cl (wT r)->Calls Tryz.prog 94 #[.agg (Bb p al cl plain pick (wT r)),VI (a:Nat),VU V] u (G9 p al cl plain pick X u)):=fun V h u hu=>by rw [h];exact IP hu hreg hpa.2
 have HLd:=FU hE.run;replace HX:=HX.out;unfold kC doM at HX;rcases hc with rfl | rfl | rfl | ⟨rfl | rfl | rfl,hm⟩ | ⟨rfl | rfl,hm⟩ | ⟨rfl,hm,hc2⟩ | rfl | rfl | ⟨hb1,hb2⟩;have HC:Hid _:=HS.out imm (by rw [<-HX,if_neg (by simp [cz]),if_pos rfl,him,<-hpa.1];rfl)
 rotate_left
 have HC:Hid _:=HS.out (IntKind.u64.wrap (xb+xc)) (by rw [<-HX,if_neg (by simp [cz]),if_neg (by decide),if_pos rfl,hxb,hxc,<-hpb.1,<-hpc.1,<-hpa.1];rfl)
 rotate_left
 have HC:Hid _:=HS.out (IntKind.u64.wrap (xb+imm)) (by rw [<-HX,if_neg (by simp [cz]),if_neg (by decide),if_neg (by decide),if_pos rfl,hxb,him,<-hpb.1,Dq,<-hpa.1];rfl)
 rotate_left
 iterate 3
  have HC:Hid _:=HT.out 2 word (by rw [<-HX,if_pos (by simp [cz,el,dy,hm])];rfl);rw [hm] at k3
  rotate_left
 iterate 2
  have HC:Hid _:=HT.out 2 word (by rw [<-HX,if_pos (by simp [cz,el,dy,hm])];rfl);generalize r.h.mode=mo at k3 hm
  rotate_left
 have HC:Hid _:=HT.out 2 word (by rw [<-HX,if_pos (by simp only [cz,el,dy,hm,hpc.1];simp;omega)];rfl);rw [hm] at k3
 rotate_left
 have HC:Hid _:=HT.out (8+r.h.mode) 0 (by rw [<-HX,if_neg (by simp [cz]),if_neg (by decide),if_neg (by decide),if_neg (by decide),if_neg (by decide),if_neg (by decide),if_neg (by decide),if_neg (by decide),if_neg (by decide),if_neg (by decide),if_neg (by decide),if_neg (by decide),if_neg (by decide),if_neg (by decide),if_pos rfl];rfl);obtain ⟨hm1,hm2⟩:=hmo
 rotate_left
 have HC:Hid _:=HT.out 2 word (by rw [<-HX,if_neg (by simp [cz]),if_neg (by decide),if_neg (by decide),if_neg (by decide),if_neg (by decide),if_neg (by decide),if_neg (by decide),if_neg (by decide),if_neg (by decide),if_neg (by decide),if_neg (by decide),if_neg (by decide),if_neg (by decide),if_neg (by decide),if_neg (by decide)];rfl)
 rotate_left
 have HC:Hid _:=HT.out 2 word (by rw [<-HX,if_neg (by simp only [cz];simp;omega),if_neg (by omega),if_neg (by omega),if_neg (by omega),if_neg (by omega),if_neg (by omega),if_neg (by omega),if_neg (by omega),if_neg (by omega),if_neg (by omega),if_neg (by omega),if_neg (by omega),if_neg (by omega),if_neg (by omega),if_neg (by omega)];rfl)
 rotate_left
 all_goals
  clear HT HS HX hE hok hpa hpb hpc him hju hxa hxb hxc hW hpcc h0 hll hs hwd hpk;generalize Bb p al cl plain pick (wT r)=D at HC HLd
 focus go_upto_region 21 with fail
 rotate_left
 focus go_upto_region 23 with fail
 rotate_left
 focus go_upto_region 25 with fail
 rotate_left
 iterate 6
  focus go_upto_region 18 with fail
  rotate_left
 focus go_upto_region 72 with fail
 rotate_left
 focus go_upto_region 73 with fail
 rotate_left
 focus go_upto_region 73 with fail
 rotate_left
 all_goals
  as_aux_lemma=>
   go_wp2_with ((with_reducible refine ja ?_ HLd.out ?_);(exact rfl));refine (HC.out v HE.out.runIn).mono ?_;rintro e v2 ⟨p',rfl,hI2,hF2,n2⟩;obtain ⟨u2,HSr,HR⟩:=Dj HE.out hI2 hF2 (ES _ _) n2 HQ.out rfl;generalize Bb p' al cl plain pick X=E at HSr |-;go_wp2_with ((with_reducible refine bI ?_ ?_ HSr.out ?_);(exact rfl);(exact rfl));exact HR.out _ rfl rfl
end
section
attribute [local go_sem ↓] Go.wp_at_zero Go.wp_at_succ
theorem Ea (x:EX) (H:ExecH x) (op:Int) (hc:op=8∧x.xa=x.xb∨op=8∧x.xa≠x.xb∨op=12∧x.r.h.mode=2∨op=13∧x.r.h.mode=2∧¬2<x.c):ET op x:=by
 obtain ⟨w,v,hb,a,b,c,p,al,cl,plain,pick,r,P,q,s,word,imm,jump,xa,xb,xc,W,pc⟩:=x;obtain ⟨hE,hok,hreg,hpk,h0,hll,hs,hwd,hpa,hpb,hpc,him,hju,hxa,hxb,hxc,hW,hpcc⟩:=H;intro Q X HX HQ K hK C
 intros
 dsimp only at *;simp only [Bv,oZ,BA,Tryz.f70,Option.getD] at hK |-;have k3:=ce hE.hart 3 (show (aA p r.h)[3]?=some (VI r.h.mode) from rfl);have hbv:=(hpl hE.hart);have HE:=hid hE;have hav:=(hpl hE.run);have k8:=ce HE.out.hart 8 (show (aA p r.h)[8]?=some (VU r.h.epc) from rfl);have k9:=ce HE.out.hart 9 (show (aA p r.h)[9]?=some (VI r.h.emode) from rfl);have hne:hb≠w.heap.size:=by have:=HE.out.hb;omega
 rcases hc with ⟨rfl,hm⟩ | ⟨rfl,hm⟩ | ⟨rfl,hm⟩ | ⟨rfl,hm,hc2⟩;have hX:X=wT r:=by
  rw [<-HX.out];unfold kC doM;rw [if_neg (by simp [cz])]
  iterate 7 rw [if_neg (by decide)]
  rw [if_pos rfl,if_pos (by rw [hpa.1,hpb.1];rw [hxa,hxb] at hm;exact hm)];rfl
 obtain ⟨v2,e2,HF⟩:∃v2,v=v2∧Hid (FS w p al cl r _ v2):=⟨_,rfl,(FS.of HE.out)⟩;have F2:=HF.out.fin HQ.out (by rw [hX] <;> rfl) (by rw [hX] <;> rfl) (by rw [hX] <;> rfl) (by rw [hX] <;> rfl) (by rw [hX] <;> rfl);clear hX
 rotate_left
 have hX:X=el (wT r) (dy (wT r).h (IntKind.u64.wrap (pc+jump))):=by
  rw [<-HX.out];unfold kC doM;rw [if_neg (by simp [cz])]
  iterate 7 rw [if_neg (by decide)]
  rw [if_pos rfl,if_neg (by rw [hpa.1,hpb.1];rw [hxa,hxb] at hm;exact hm),hju,Dq,hpcc];rfl
 obtain ⟨v2,e2,HF⟩:∃v2,(v.setCell (AD w.heap.size 2) (VU (IntKind.u64.wrap (pc+jump))))=v2∧Hid (FS w p al cl r _ v2):=⟨_,rfl,((FS.of HE.out).set 2 (VU (IntKind.u64.wrap (pc+jump))))⟩;have F2:=HF.out.fin HQ.out (by rw [hX] <;> rfl) (by rw [hX] <;> rfl) (by rw [hX] <;> rfl) (by rw [hX] <;> rfl) (by rw [hX] <;> rfl);clear hX;have c2:=ce HE.out.run 2 (show (Bb p al cl plain pick (wT r))[2]?=some _ from rfl);have f2:=ay HE.out.run 2
 rotate_left
 have hX:X=el (wT r) ⟨r.h.mem,r.h.regs,IntKind.u64.wrap (r.h.epc+jump),r.h.emode,r.h.sum,r.h.mxr,r.h.satp,r.h.tvec,r.h.epc,r.h.emode,r.h.cause,r.h.tval,r.h.k⟩:=by
  rw [<-HX.out];unfold kC doM;rw [if_neg (by simp [cz,el,dy,hm])]
  iterate 11 rw [if_neg (by decide)]
  rw [if_pos rfl,hju,Dq];rfl
 rw [hm] at k3;obtain ⟨v2,e2,HF⟩:∃v2,((v.setCell (AD w.heap.size 2) (VU (IntKind.u64.wrap (r.h.epc+jump)))).setCell (AD w.heap.size 3) (VI r.h.emode))=v2∧Hid (FS w p al cl r _ v2):=⟨_,rfl,(((FS.of HE.out).set 2 (VU (IntKind.u64.wrap (r.h.epc+jump)))).set 3 (VI r.h.emode))⟩;have F2:=HF.out.fin HQ.out (by rw [hX] <;> rfl) (by rw [hX] <;> rfl) (by rw [hX] <;> rfl) (by rw [hX] <;> rfl) (by rw [hX] <;> rfl);clear hX;have c2:=ce HE.out.run 2 (show (Bb p al cl plain pick (wT r))[2]?=some _ from rfl);have f2:=ay HE.out.run 2;have c3:=ce HE.out.run 3 (show (Bb p al cl plain pick (wT r))[3]?=some _ from rfl);have f3:=ay HE.out.run 3
 rotate_left
 have hX:X=el (wT r) ⟨r.h.mem,r.h.regs,(wT r).h.pc,r.h.mode,r.h.sum,r.h.mxr,r.h.satp,r.h.tvec,xa,(c:Int),r.h.cause,r.h.tval,r.h.k⟩:=by
  rw [<-HX.out];unfold kC doM;rw [if_neg (by simp only [cz,el,dy,hm,hpc.1];simp;omega)]
  iterate 12 rw [if_neg (by decide)]
  rw [if_pos rfl,hpc.1,hpa.1,hxa];rfl
 rw [hm] at k3;obtain ⟨v2,e2,HF⟩:∃v2,((v.setCell (AD w.heap.size 8) (VU xa)).setCell (AD w.heap.size 9) (VI (c:Nat)))=v2∧Hid (FS w p al cl r _ v2):=⟨_,rfl,(((FS.of HE.out).set 8 (VU xa)).set 9 (VI (c:Nat)))⟩;have F2:=HF.out.fin HQ.out (by rw [hX] <;> rfl) (by rw [hX] <;> rfl) (by rw [hX] <;> rfl) (by rw [hX] <;> rfl) (by rw [hX] <;> rfl);clear hX;have c8:=ce HE.out.run 8 (show (Bb p al cl plain pick (wT r))[8]?=some _ from rfl);have f8:=ay HE.out.run 8;have c9:=ce HE.out.run 9 (show (Bb p al cl plain pick (wT r))[9]?=some _ from rfl);have f9:=ay HE.out.run 9
 rotate_left
 all_goals
  obtain ⟨E,u2,HLd,HSr,HR⟩:=F2;clear HF HX hE hok hpa hpb hpc him hju hxa hxb hxc hW hpcc h0 hll hs hwd hpk
 iterate 2
  focus go_upto_region 48 with fail
  rotate_left
 focus go_upto_region 66 with fail
 rotate_left
 focus go_upto_region 70 with fail
 rotate_left
 all_goals
  try rw [e2]
  go_wp2_with (first
   | ((with_reducible refine ja ?_ HLd.out ?_);(exact rfl))
   | ((with_reducible refine bI ?_ ?_ HSr.out ?_);(exact rfl);(exact rfl)))
  exact HR.out _ rfl rfl
end
section
attribute [local go_sem ↓] Go.wp_at_zero Go.wp_at_succ
theorem Ia (x:EX) (H:ExecH x) (hmo:x.r.h.mode≠0):ET 9 x:=by
 obtain ⟨w,v,hb,a,b,c,p,al,cl,plain,pick,r,P,q,s,word,imm,jump,xa,xb,xc,W,pc⟩:=x;obtain ⟨hE,hok,hreg,hpk,h0,hll,hs,hwd,hpa,hpb,hpc,him,hju,hxa,hxb,hxc,hW,hpcc⟩:=H;intro Q X HX HQ K hK C
 intros
 dsimp only at *;simp only [Bv,oZ,BA,Tryz.f70,Option.getD] at hK |-;have k3:=ce hE.hart 3 (show (aA p r.h)[3]?=some (VI r.h.mode) from rfl);have hbv:=(hpl hE.hart);have HE:=hid hE;have HXu:inU xa:=by rw [hxa];exact hok.h.regs _
 have HX2:Hid (X=if cW xa=true then el (wT r) ⟨r.h.mem,r.h.regs,(wT r).h.pc,r.h.mode,r.h.sum,r.h.mxr,xa,r.h.tvec,r.h.epc,r.h.emode,r.h.cause,r.h.tval,r.h.k⟩ else wT r):=by
  show _=_;rw [<-HX.out];unfold kC doM;rw [if_neg (by simp [cz,el,dy,hmo])]
  iterate 8 rw [if_neg (by decide)]
  rw [if_pos rfl,hpa.1,hxa];rfl
 generalize r.h.mode=mo at k3 hmo;clear HX hE hok hpa hpb hpc him hju hxa hxb hxc hW hpcc h0 hll hs hwd hpk;go_upto_region 50 with fail;go_wp2_with fail;refine (DS xa v HXu.1 HXu.2).mono ?_;rintro e v1 ⟨rfl,nS⟩;have HE2:=hid (HE.out.keep nS);clear k3 hbv nS HE;have hav:=(hpl HE2.out.run);have c6:=ce HE2.out.run 6 (show (Bb p al cl plain pick (wT r))[6]?=some _ from rfl);have f6:=ay HE2.out.run 6;have hX:=HX2.out;clear HX2;cases hsc:cW xa;rw [hsc,if_neg (by decide)] at hX;obtain ⟨v2,e2,HF⟩:∃v2,v1=v2∧Hid (FS w p al cl r _ v2):=⟨_,rfl,(FS.of HE2.out)⟩
 rotate_left
 rw [hsc,if_pos rfl] at hX;obtain ⟨v2,e2,HF⟩:∃v2,v1.setCell (AD w.heap.size 6) (VU xa)=v2∧Hid (FS w p al cl r _ v2):=⟨_,rfl,(FS.of HE2.out).set 6 (VU xa)⟩
 rotate_left
 all_goals
  obtain ⟨E,u2,HLd,HSr,HR⟩:=HF.out.fin HQ.out (by rw [hX] <;> rfl) (by rw [hX] <;> rfl) (by rw [hX] <;> rfl) (by rw [hX] <;> rfl) (by rw [hX] <;> rfl);clear hX HF;go_upto_region 52 with fail;try rw [e2]
  go_wp2_with (first
   | ((with_reducible refine ja ?_ HLd.out ?_);(exact rfl))
   | ((with_reducible refine bI ?_ ?_ HSr.out ?_);(exact rfl);(exact rfl)))
  exact HR.out _ rfl rfl
end
section
attribute [local go_sem ↓] Go.wp_at_zero Go.wp_at_succ
theorem Iz (x:EX) (H:ExecH x):ET 4 x:=by
 obtain ⟨w,v,hb,a,b,c,p,al,cl,plain,pick,r,P,q,s,word,imm,jump,xa,xb,xc,W,pc⟩:=x;obtain ⟨hE,hok,hreg,hpk,h0,hll,hs,hwd,hpa,hpb,hpc,him,hju,hxa,hxb,hxc,hW,hpcc⟩:=H;intro Q X HX0 HQ K hK C
 intros
 dsimp only at *;simp only [Bv,oZ,BA,Tryz.f70,Option.getD] at hK |-;have HE:=hid hE;have HQp:=exq HQ.out;have HX:Hid (kC plain pick r 4 P q s word=(cE (wT r) (a:Int) (IntKind.u64.wrap (xb*jY (s%64))))):=by
  show _=_;unfold kC doM;rw [if_neg (by simp [cz]),if_neg (by decide),if_neg (by decide),if_neg (by decide),if_pos rfl,hxb,<-hpb.1,<-hpa.1];rfl
 have hX:=HX0.out;have HX':Hid (X=(cE (wT r) (a:Int) (IntKind.u64.wrap (xb*jY (s%64))))):=by show _=_;rw [<-hX];exact HX.out
 clear HX0;have ha8:=hpa.2;obtain ⟨hs1,hs2⟩:=hs;have HTm:Hid (s.tmod 64=s%64):=Int.tmod_eq_emod_of_nonneg hs1;clear hX HX hE hok hpa hpb hpc him hju hxa hxb hxc hW hpcc h0 hll;have HSR:=hid fun u (hu:RunIn u p al cl (wT r))=>Ck p al cl plain pick (wT r) a (IntKind.u64.wrap (xb*jY (s%64))) u hu (by omega) (by show (a:Int).toNat<r.h.regs.length;omega) (by show r.h.regs.length<=_;omega);have hRs:=ef p al cl plain pick (wT r);have HLr:=hid fun (u:World) (hu:u.heap[w.heap.size]?=some (.cells (Bb p al cl plain pick (wT r)) 54 (0,0)))=>ey (P:=Tryz.prog) (T:=54) hu Tryz.underlying54 rfl (by rw [hRs];exact po);have HRv:=hid HE.out.run;generalize Bb p al cl plain pick (wT r)=D at HSR hRs HLr HRv;go_upto_region 27 with fail;have hF:=HRv.out;refine ax (fun u=>u.heap[w.heap.size]?=some (.cells D 54 (0,0))) 8 ?_;refine ak 0 141 (.agg D) rfl hF ?_ (hQ:=hqp HQp) (hy:=fun u hu=>aP rfl (HLr.out u hu));refine ak 1 142 (VI (a:Nat)) rfl hF ?_ (hQ:=hqp HQp);refine ak 2 143 (VU xb) rfl hF ?_ (hQ:=hqp HQp);refine ak 3 144 (VI s) rfl hF ?_ (hQ:=hqp HQp)
 go_frame
 refine ak 4 145 (VI (s%64)) rfl hF ?_ (hQ:=hqp HQp) (hy:=fun u hu=>(by have h1:=HTm.out;go_simp))
 go_frame
 refine jq 5 146 rfl (f:=62) (args:=#[VI (s%64)]) ?_;refine (ge (s%64) (jY (s%64)) v.drew (by omega) rfl).mono ?_;rintro e v1 ⟨rfl,rfl⟩;refine ⟨_,rfl,fun _=>hF,?_⟩
 go_frame
 refine ak 6 147 (VU (IntKind.u64.wrap (xb*jY (s%64)))) rfl hF ?_ (hQ:=hqp HQp)
 go_frame
 refine jq 7 148 rfl (f:=94) (args:=#[.agg D,VI (a:Nat),VU (IntKind.u64.wrap (xb*jY (s%64)))]) ?_;refine (HSR.out v.drew (HE.out.runIn.keep ((brf).drew))).mono ?_;rintro e v2 ⟨⟨p',rfl,hI2,hF2⟩,n2'⟩;have n2:Bw v v2:=bst ((brf).drew) n2';refine ⟨_,rfl,fun _=>ag HRv.out n2 (hpl HRv.out),?_⟩
 go_frame
 obtain ⟨u2,HSr,HR⟩:=Dj HE.out hI2 hF2 (ES _ _) n2 HQ.out HX'.out;generalize Bb p' al cl plain pick (cE (wT r) (a:Int) (IntKind.u64.wrap (xb*jY (s%64))))=E at HSr |-;refine dM 8 12 148 rfl HSr.out ?_;refine de ?_;go_wp2_with fail;exact HR.out _ rfl rfl
end
end Go.Proofs.YthdgiakgepmabaaGreat
