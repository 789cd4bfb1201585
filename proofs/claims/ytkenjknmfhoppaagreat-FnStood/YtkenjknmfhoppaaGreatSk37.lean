import Derived.Test.YtkenjknmfhoppaaGreatSk36
namespace Go.Proofs.YtkenjknmfhoppaaGreat
open Go.RowKit
set_option linter.unusedVariables false
set_option maxHeartbeats 6400000
set_option maxRecDepth 20000
section
attribute [local go_sem ↓] Go.wp_at_zero Go.wp_at_succ
def Fo:Prop:=∀(v:Value) (t:TlbM) (k:Int) (w:World),TlbAt w v t->0<t.es.length->(0<=k∧k<=255)->Calls Tryz.prog 51 #[v,VI k] w fun e w'=>(∃x,e=.returned x∧TlbOwn w.heap.size w' x (be t k))∧Bw w w'
theorem xI (v:Value) (t:TlbM) (k:Int) (w:World) (h:TlbAt w v t) (hn0:0<t.es.length) (hk:0<=k∧k<=255):
 Calls Tryz.prog 51 #[v,VI k] w fun e w'=>(∃x,e=.returned x∧TlbOwn w.heap.size w' x (be t k))∧Bw w w':=by
 have HT:Hid (TlbAt w v t):=h;obtain ⟨a,cap,rfl,hr,_,_,_,hl,hlc,hcm,hnil,hsp⟩:=h;obtain ⟨sets,ways,es⟩:=t;obtain ⟨n,hn⟩:∃n,es.length=n:=⟨_,rfl⟩;simp only at hr hl hlc hnil hn0 HT |-;have HN:Hid (es.length=n):=hn;rw [hn] at hr hl hlc hnil HT hn0 |-;obtain ⟨j,hjr,hj⟩:∃j:Nat,k.tmod (n:Int)=j∧j<n:=by
  refine ⟨(k%(n:Int)).toNat,?_,?_⟩
  ·rw [Int.tmod_eq_emod_of_nonneg hk.1];have:=Int.emod_nonneg k (show (n:Int)≠0 by omega);omega
  ·have:=Int.emod_nonneg k (show (n:Int)≠0 by omega);have:=Int.emod_lt_of_pos k (show 0<(n:Int) by omega);omega
 have HRm:Hid (k.tmod (n:Int)=j):=hjr;have HX:Hid (be ⟨sets,ways,es⟩ k=⟨sets,ways,es.set j cH⟩):=by
  show _=_;unfold be;simp only;rw [hn,show (k%(n:Int)).toNat=j by rw [Int.tmod_eq_emod_of_nonneg hk.1] at hjr;omega]
 obtain ⟨X,hX⟩:∃X,be ⟨sets,ways,es⟩ k=X:=⟨_,rfl⟩;rw [hX];rw [hX] at HX;have HN0:Hid (¬n=0):=by show ¬_;omega
 clear hX hr hnil hsp hn hjr;go_enter Tryz.func51,Tryz.ntmps51;go_wp2_with fail;obtain ⟨v1,Ev1,F⟩:=ax2 w #[VI sets,VI ways,.slice a n cap] #[VI 0,VI 0,SN] 39 39;rw [Ev1.out];clear Ev1;obtain ⟨h3,h6,l1,n1⟩:=F;have H6:Hid _:=h6;have b2:w.heap.size+1<v1.heap.size:=by omega
 clear h3 h6 l1;refine (iE _ ⟨sets,ways,es⟩ v1 (HT.out.keep n1)).mono ?_;rintro e v2 ⟨⟨x,rfl,g,cp,rfl,o2⟩,n2⟩;simp only at o2 |-;rw [HN.out] at o2 |-;obtain ⟨_,hg1,hg2⟩:=bI o2;simp only at hg1 hg2;have O2:Hid (v2.ownsRow v1.heap.size 127 6 (SL g n cp) n (aO es)):=o2;have K6:Hid _:=ag H6.out n2 b2;have l2:=n2.size;have n12:=bst n1 n2;clear o2 n2 H6 n1;go_upto_region 2 with fail;obtain ⟨v3,Ev3,F⟩:=ax1 v2 #[VI sets,VI ways,SL g n cp] 39;rw [Ev3.out];clear Ev3;obtain ⟨h5,l3,n3⟩:=F;have H5:Hid (v3.heap[v2.heap.size]?=some (.cells #[VI sets,VI ways,SL g n cp] 39 (0,0))):=h5;have O3:Hid (v3.ownsRow v1.heap.size 127 6 (SL g n cp) n (aO es)):=aj O2.out n3;have J6:Hid _:=ag K6.out n3 (by omega);have n13:=bst n12 n3;have b3:v2.heap.size<v3.heap.size:=by omega
 clear h5 l3 O2 K6 n12 n3;obtain ⟨⟨p0,p1,p2⟩,_,_,_⟩:=aA H5.out;have HLs:Hid (∀u:World,u.cell? (AD v2.heap.size 2)=some (SL g n cp)->(Instr.loadAt 37 (PT v2.heap.size 2)).run Tryz.prog u=.ok (SL g n cp) u):=fun u hu=>by go_simp
 have hF:v3.drew.cell? (AD v2.heap.size 2)=some (SL g n cp):=by simpa using p2
 clear p0 p1 p2;refine aN (fun u=>u.cell? (AD v2.heap.size 2)=some (SL g n cp)) 9 ?_;refine ax 0 8 (PT v2.heap.size 2) rfl hF ?_
 go_frame
 refine ax 1 9 (SL g n cp) rfl hF ?_ (hy:=fun u hu=>aU rfl (HLs.out u hu));refine ax 2 10 (VI k) rfl hF ?_;refine ax 3 11 (PT v2.heap.size 2) rfl hF ?_
 go_frame
 refine ax 4 12 (SL g n cp) rfl hF ?_ (hy:=fun u hu=>aU rfl (HLs.out u hu));refine ax 5 13 (VI n) rfl hF ?_
 go_frame
 refine ax 6 14 (VI j) rfl hF ?_ (hy:=fun u hu=>(by have h1:=HRm.out;have h2:=HN0.out;go_simp));refine ax 7 15 (.agg #[.bool false,VI 0,VU 0,VU 0,.bool false,VU 0]) rfl hF ?_
 go_frame
 refine ax 8 16 (.pointer (some ⟨g,j*6,none⟩)) rfl hF ?_ (hy:=fun u hu=>(by have h1:=hj;go_simp))
 go_frame
 have hcl:(aO es).length=n*6:=by rw [eT,HN.out]
 have O4:Hid (v3.drew.ownsRow v1.heap.size 127 6 (SL g n cp) n (aO es)):=aj O3.out ((brf).drew);have n13d:=n13.drew;have H5d:Hid (v3.drew.heap[v2.heap.size]?=some (.cells #[VI sets,VI ways,SL g n cp] 39 (0,0))):=H5.out;have J6d:Hid (v3.drew.heap[w.heap.size+1]?=some (.cells #[VI 0,VI 0,SN] 39 (0,0))):=J6.out;have hsd:v3.heap.size<=v3.drew.heap.size:=nle;clear hF HLs H5 J6 n13 O3;generalize v3.drew=vd at O4 n13d H5d J6d hsd |-;have q0:=aE O4.out (j*6) _ (geg (by omega));have q1:=aE O4.out (j*6+1) _ (geg (by omega));have q2:=aE O4.out (j*6+2) _ (geg (by omega));have q3:=aE O4.out (j*6+3) _ (geg (by omega));have q4:=aE O4.out (j*6+4) _ (geg (by omega));have q5:=aE O4.out (j*6+5) _ (geg (by omega));generalize (aO es)[j*6]'_=y0 at q0;generalize (aO es)[j*6+1]'_=y1 at q1;generalize (aO es)[j*6+2]'_=y2 at q2;generalize (aO es)[j*6+3]'_=y3 at q3;generalize (aO es)[j*6+4]'_=y4 at q4;generalize (aO es)[j*6+5]'_=y5 at q5;have r0:=aQ O4.out (j*6);have r1:=aQ O4.out (j*6+1);have r2:=aQ O4.out (j*6+2);have r3:=aQ O4.out (j*6+3);have r4:=aQ O4.out (j*6+4);have r5:=aQ O4.out (j*6+5);have HS:(Instr.storeAt 127 (.pointer (some ⟨g,j*6,none⟩)) (.agg #[.bool false,VI 0,VU 0,VU 0,.bool false,VU 0])).run Tryz.prog vd=.ok () ((((((vd.setCell ⟨g,j*6,none⟩ (.bool false)).setCell ⟨g,j*6+1,none⟩ (VI 0)).setCell ⟨g,j*6+2,none⟩ (VU 0)).setCell ⟨g,j*6+3,none⟩ (VU 0)).setCell ⟨g,j*6+4,none⟩ (.bool false)).setCell ⟨g,j*6+5,none⟩ (VU 0)):=by go_simp
 refine dO 9 16 15 rfl HS ?_;refine dt ?_;clear q0 q1 q2 q3 q4 q5 r0 r1 r2 r3 r4 r5 HS;have gS:=aq (aq (aq (aq (aq (aq (aw vd (some g)) (j*6) (.bool false)) (j*6+1) (VI 0)) (j*6+2) (VU 0)) (j*6+3) (VU 0)) (j*6+4) (.bool false)) (j*6+5) (VU 0);have O5:Hid _:=aF (aF (aF (aF (aF (aF O4.out (j*6) (.bool false)) (j*6+1) (VI 0)) (j*6+2) (VU 0)) (j*6+3) (VU 0)) (j*6+4) (.bool false)) (j*6+5) (VU 0);have hes:=js es j cH (by rw [HN.out];exact hj);simp only [cH] at hes;rw [<-hes] at O5;generalize (((((vd.setCell ⟨g,j*6,none⟩ (.bool false)).setCell ⟨g,j*6+1,none⟩ (VI 0)).setCell ⟨g,j*6+2,none⟩ (VU 0)).setCell ⟨g,j*6+3,none⟩ (VU 0)).setCell ⟨g,j*6+4,none⟩ (.bool false)).setCell ⟨g,j*6+5,none⟩ (VU 0)=v4 at gS O5 |-;have n14:Bw w v4:=Below.gb n13d gS (by have:=n13d.size;omega) (by omega);have P5:=aB H5d.out gS (by omega);have P6:=aB J6d.out gS (by omega);have l4:vd.heap.size<=v4.heap.size:=gS.size;clear gS n13d hes H5d J6d;obtain ⟨⟨p0,p1,p2⟩,_,_,_⟩:=aA P5;obtain ⟨⟨d0,d1,d2⟩,e0,e1,e2⟩:=aA P6;have c3:v2.heap.size<v4.heap.size:=by omega
 go_wp2_with fail;refine bodyPost_ret (v:=.agg #[VI sets,VI ways,SL g n cp]) (by simp [results,Tryz.results51,go_sem,d0,d1,d2]) rfl ⟨⟨_,rfl,?_⟩,gQ n14 (by omega) _ _ _⟩;rw [HX.out];refine ⟨g,cp,by simp only [List.length_set];rw [HN.out],?_⟩;simp only [List.length_set];rw [HN.out];exact aJ (aG O5.out (gb3 v4 (w.heap.size+1) _ _ _) (by omega)) (by omega)
end
section
attribute [local go_sem ↓] Go.wp_at_zero Go.wp_at_succ
def dl:Nat->Code->Code
 | 0,c=>c
 | n+1,.seq _ c=>dl n c
 | _+1,c=>c
def el:Code->Code
 | .seq c _=>c
 | c=>c
def eS (f:Func):Code:=f.body.getD .skip
def au (r:RunM):RunM:=bL r (eE r.h ((r.h.pc+4)%18446744073709551616))
structure ExecIn (w v:World) (hb:Nat) (p:PtrM) (al:Option Addr) (cl:Nat) (plain:Bool) (pick:Int) (r:RunM):Prop where
 run:v.heap[w.heap.size]?=some (.cells (aM p al cl plain pick (au r)) 61 (0,0))
 res:v.heap[w.heap.size+1]?=some (.cells eH 61 (0,0))
 hart:v.heap[hb]?=some (.cells (ak p r.h) 43 (0,0))
 hb:w.heap.size+1<hb
 runIn:RunIn v p al cl (au r)
 below:Bw w v
 ptrs:∀q,some q∈aV p->q.block<w.heap.size
 looks:∀q,al=some q->q.block<w.heap.size
def Ce (op:Int) (w v:World) (hb a b c:Nat) (P q s word imm jump xa xb xc W pc:Int) (Q:Exit->Act->World->Prop):Prop:=
 ∀K:Act->World->Prop,(∀a w,(dl 15 (eS Tryz.f94)).wp Tryz.prog Q a w->K a w)->∀(C:Array Value) (u32 u33 u34 u35 u36 u37 u38 u39 u40 u41 u42 u43 u44 u45 u46 u47 u48 u49 u50 u51 u52 u53 u54 u55 u56 u57 u58 u59 u60 u61 u62 u63 u64 u65 u66 u67 u68 u69 u70 u71 u72 u73 u74 u75 u76 u77 u78 u79:Value),(el (dl 14 (eS Tryz.f94))).wp Tryz.prog (Exit.then K Q) ⟨#[.agg C,VI op,VI P,VI q,VI s,VU word,PT w.heap.size 0,undef,undef,undef,undef,undef,PT (w.heap.size+1) 0,PT hb 0,VI (a:Nat),VI (b:Nat),VI (c:Nat),VU imm,VU jump,VU xa,VU xb,VU xc,VI W,VU pc,undef,undef,undef,undef,undef,undef,undef,undef,u32,u33,u34,u35,u36,u37,u38,u39,u40,u41,u42,u43,u44,u45,u46,u47,u48,u49,u50,u51,u52,u53,u54,u55,u56,u57,u58,u59,u60,u61,u62,u63,u64,u65,u66,u67,u68,u69,u70,u71,u72,u73,u74,u75,u76,u77,u78,u79,undef,undef,undef,undef,undef,undef,undef,undef,undef,undef,undef,undef,undef,undef,undef,undef,undef,undef,undef,undef,undef,undef,undef,undef,undef,undef,undef,undef,undef,undef,undef,undef,undef,undef,undef,undef,undef,undef,undef,undef,undef,undef,undef,undef,undef,undef,undef,undef,undef,undef,undef,undef,undef,undef,undef,undef,undef,undef,undef,undef,undef,undef,undef,undef,undef,undef,undef,undef,undef,undef,undef,undef,undef,undef,undef,undef,undef,undef,undef,undef,undef,undef,undef,undef,undef,undef,undef,undef,undef,undef,undef,undef,undef,undef,undef,undef,undef,undef,undef,undef,undef,undef,undef,undef,undef,undef,undef,undef,undef,undef,undef,undef,undef,undef,undef,undef,undef,undef,undef,undef,undef,undef,undef,undef,undef,undef,undef,undef,undef,undef,undef,undef,undef,undef,undef,undef,undef,undef,undef,undef,undef,undef,undef,undef,undef,undef,undef,undef,undef,undef,undef,undef,undef,undef,undef,undef,undef,undef,undef,undef,undef,undef,undef,undef,undef,undef,undef,undef,undef,undef,undef,undef,undef,undef,undef,undef,undef,undef,undef,undef,undef,undef,undef,undef,undef,undef,undef,undef,undef,undef,undef,undef,undef,undef,undef,undef,undef,undef,undef,undef,undef,undef,undef,undef,undef,undef,undef,undef,undef,undef,undef,undef,undef,undef,undef,undef,undef,undef,undef,undef,undef,undef,undef,undef,undef,undef,undef,undef,undef,undef,undef,undef,undef,undef,undef,undef,undef,undef,undef,undef,undef,undef,undef,undef,undef,undef,undef,undef],[]⟩ v
theorem vj (p:PtrM) (al:Option Addr) (cl:Nat) (plain:Bool) (pick:Int) (r:RunM) (op P q s word:Int) (w:World) (hr:RunIn w p al cl r) (hk:ROk r) (hreg:r.h.regs.length=8)
 (hop:0<=op∧op<=255) (hp:0<=P∧P<=255) (hq:0<=q∧q<=255) (hs:0<=s∧s<=255) (R:Ending->World->Prop)
 (H:∀(v:World) (hb a b c:Nat) (imm jump xa xb xc W pc:Int),ExecIn w v hb p al cl plain pick r->P%8=a∧a<8->P/8%8=b∧b<8->q%8=c∧c<8->imm=iA s%18446744073709551616->jump=4*iA s%18446744073709551616->xa=gY r.h a->xb=gY r.h b->xc=gY r.h c->W=iW ((c:Int)%4)->pc=r.h.pc->Ce op w v hb a b c P q s word imm jump xa xb xc W pc (bodyPost Tryz.prog Tryz.f94 R)):
  Calls Tryz.prog 94 #[.agg (aM p al cl plain pick r),VI op,VI P,VI q,VI s,VU word] w R:=by
 have HH:Hid _:=H;clear H;have HX:Hid (∀(C:Array Value),aM p al cl plain pick r=C->aM p al cl plain pick (au r)=C.setIfInBounds 2 (VU ((r.h.pc+4)%18446744073709551616))):=fun C h=>by rw [<-h];rfl
 have HI:=hid hr;have HOK:=hid hk;have hsz:=bC p al cl plain pick r;have HHt:Hid (((aM p al cl plain pick r).toList.drop 0).take 21=(ak p r.h).toList):=rfl;have hhs:=eI p r.h;have gH1:(ak p r.h)[1]?=some (.slice p.ar r.h.regs.length p.cr):=rfl;have gH2:(ak p r.h)[2]?=some (VU r.h.pc):=rfl;have gC2:(aM p al cl plain pick r)[2]?=some (VU r.h.pc):=rfl;have HHo:=hid (fT p r.h);have hpt:=hr.h.low;have hlo:=hr.low;generalize hC:aM p al cl plain pick r=C at hsz HHt gC2 |-;have HC:Hid _:=hC;generalize hD:ak p r.h=D at HHt hhs gH1 gH2 HHo;have HD:Hid _:=hD;clear hr hk hC hD;go_enter Tryz.func94,Tryz.ntmps94;go_upto_region 1 with fail;obtain ⟨v1,Ev1,F⟩:=ax2 w C eH 61 61;rw [Ev1.out];clear Ev1;obtain ⟨h3,h6,l1,n1⟩:=F;have H3:Hid _:=h3;have H6:Hid _:=h6;have b1:w.heap.size<v1.heap.size:=by omega
 have b2:w.heap.size+1<v1.heap.size:=by omega
 clear h3 h6 l1;have HLh:Hid _:=de (P:=Tryz.prog) (T:=43) H3.out Tryz.underlying43 rfl (o:=0) D.toList eM HHt.out (by rw [Array.length_toList,hhs]);simp only [Array.toArray_toList] at HLh;have a1:=cw v1 fN 43;have HSh:Hid _:=bq (P:=Tryz.prog) (T:=43) (V:=D) a1.1 (by rw [hhs];exact eM) (by rw [hhs,eY]) HHo.out;have K5:Hid _:=aT (V:=D) a1.1 (by rw [hhs,eY]);have n2:=bst n1 a1.2.2;have n3:=aS (show w.heap.size<=v1.heap.size by omega) D.toList 0 _ n2;have K3:Hid _:=iy (ag H3.out a1.2.2 b1) 0 D.toList (show w.heap.size≠v1.heap.size by omega);have K6:Hid _:=iy (ag H6.out a1.2.2 b2) 0 D.toList (show w.heap.size+1≠v1.heap.size by omega);have s2:v1.heap.size<((v1.alloc (Obj.cells fN 43)).setCells v1.heap.size 0 D.toList).heap.size:=by rw [cV];omega
 clear a1;go_upto_region 2 with (first
  | ((with_reducible refine ba ?_ HLh.out ?_);(exact rfl))
  | ((with_reducible refine aL ?_ ?_ HSh.out ?_);(exact rfl);(exact rfl)))
 generalize (v1.alloc (Obj.cells fN 43)).setCells v1.heap.size 0 D.toList=v2 at K3 K5 K6 n3 s2 |-;clear HLh HSh n2 H3 H6 n1;obtain ⟨hp1,hp2⟩:=hp;obtain ⟨hq1,hq2⟩:=hq;obtain ⟨hs1,hs2⟩:=hs;obtain ⟨a,ha,ha8⟩:∃a:Nat,P%8=a∧a<8:=⟨(P%8).toNat,by omega,by omega⟩;obtain ⟨b,hb,hb8⟩:∃b:Nat,P/8%8=b∧b<8:=⟨(P/8%8).toNat,by omega,by omega⟩;obtain ⟨c,hc,hc8⟩:∃c:Nat,q%8=c∧c<8:=⟨(q%8).toNat,by omega,by omega⟩;obtain ⟨W,hW⟩:∃W,iW ((c:Int)%4)=W:=⟨_,rfl⟩;have HW:Hid (W=2^((c:Int)%4).toNat):=hW.symm;have hW1:1<=W∧W<=8:=by
  rw [<-hW];have hc4:(c:Int)%4=0∨(c:Int)%4=1∨(c:Int)%4=2∨(c:Int)%4=3:=by omega
  rcases hc4 with h | h | h | h <;> rw [h] <;> decide
 obtain ⟨hW1,hW8⟩:=hW1;have HWm:Hid (iW ((c:Int)%4)=W):=hW;clear hW;rcases HI.out.h.regs.2 with h0 | ⟨rb,ro,har,hrlt,hcell⟩
 ·omega
 rw [har,hreg] at gH1;have hrw:rb<v2.heap.size:=ltl hrlt n3.size;have HCl:Hid (∀n:Nat,n<8->v2.cell? ⟨rb,ro+n,none⟩=some (VU (gY r.h n))):=fun n hn=>Below.cell2 n3 (hcell n _ (so r.h.regs n (by omega))) hrlt;have ca:=HCl.out a ha8;have cb:=HCl.out b hb8;have cc:=HCl.out c hc8;have k1:=ab K5.out 1 gH1;have k2:=ab K5.out 2 gH2;have k3:=ab K3.out 2 gC2;have k4:=az K3.out 2;have hpc:=HOK.out.h.pc;have hcr:=HI.out.h.regc;rw [hreg] at hcr;have b3:w.heap.size<v2.heap.size:=by omega
 obtain ⟨xa,hxa⟩:∃xa,gY r.h a=xa:=⟨_,rfl⟩;obtain ⟨xb,hxb⟩:∃xb,gY r.h b=xb:=⟨_,rfl⟩;obtain ⟨xc,hxc⟩:∃xc,gY r.h c=xc:=⟨_,rfl⟩;obtain ⟨pc,hpc'⟩:∃pc,r.h.pc=pc:=⟨_,rfl⟩;rw [hxa] at ca;rw [hxb] at cb;rw [hxc] at cc;rw [hpc'] at k2 k3 hpc;have HXa:=hid hxa.symm;have HXb:=hid hxb.symm;have HXc:=hid hxc.symm;have HPc:=hid hpc'.symm;have HpA:Hid (P%8=a∧a<8):=⟨ha,ha8⟩;have HpB:Hid (P/8%8=b∧b<8):=⟨hb,hb8⟩;have HpC:Hid (q%8=c∧c<8):=⟨hc,hc8⟩;clear hxa hxb hxc hpc';have hpc1:=hpc.1;have hpc2:=hpc.2;clear hpc;have HE:Hid (ExecIn w (v2.setCell (AD w.heap.size 2) (VU (IntKind.u64.wrap (pc+4)))) v1.heap.size p al cl plain pick r):=by
  have hwr:IntKind.u64.wrap (pc+4)=(r.h.pc+4)%18446744073709551616:=by rw [HPc.out];rfl
  have nn:=cU n3 nle 2 (VU (IntKind.u64.wrap (pc+4)));refine ⟨?_,eF K6.out 2 _ (by omega),?_,by omega,?_,nn,hpt,hlo⟩
  ·rw [HX.out C HC.out,<-hwr];exact co K3.out 2 _
  ·rw [HD.out];exact eF K5.out 2 _ (by omega)
  ·have k:=HI.out.keep nn;exact ⟨⟨k.h.mem,k.h.memc,k.h.regs,k.h.regc,k.h.rega,k.h.ks,k.h.low⟩,k.looks,k.lookc,k.looka,k.lookl,k.low⟩
 clear K3 K5 K6 gH1 gH2 gC2;have HX':=HX;clear HX hpt hlo n3;clear hcell;by_cases h128:128<=s
 ·go_upto_region 10 with fail;rw [ha,hb,hc];clear ha hb hc;go_upto_region 13 with fail;go_upto_region 14 with (go_at_call 84;refine (bj ((c:Int)%4) W _ (by omega) HW.out).mono ?_;rintro e w' ⟨rfl,rfl⟩);go_upto_region 16 with fail;refine HH.out _ v1.heap.size a b c _ _ xa xb xc W pc HE.out HpA.out HpB.out HpC.out ?_ ?_ HXa.out HXb.out HXc.out HWm.out.symm HPc.out _ (by assumption) C _ _ _ _ _ _ _ _ _ _ _ _ _ _ _ _ _ _ _ _ _ _ _ _ _ _ _ _ _ _ _ _ _ _ _ _ _ _ _ _ _ _ _ _ _ _ _ _
  ·unfold iA;rw [if_pos h128];rfl
  ·unfold iA;rw [if_pos h128];rfl
 ·go_upto_region 10 with fail;rw [ha,hb,hc];clear ha hb hc;go_upto_region 13 with fail;go_upto_region 14 with (go_at_call 84;refine (bj ((c:Int)%4) W _ (by omega) HW.out).mono ?_;rintro e w' ⟨rfl,rfl⟩);go_upto_region 16 with fail;refine HH.out _ v1.heap.size a b c _ _ xa xb xc W pc HE.out HpA.out HpB.out HpC.out ?_ ?_ HXa.out HXb.out HXc.out HWm.out.symm HPc.out _ (by assumption) C _ _ _ _ _ _ _ _ _ _ _ _ _ _ _ _ _ _ _ _ _ _ _ _ _ _ _ _ _ _ _ _ _ _ _ _ _ _ _ _ _ _ _ _ _ _ _ _
  ·unfold iA;rw [if_neg (by omega)];omega
  ·unfold iA;rw [if_neg (by omega)];omega
end
section
attribute [local go_sem ↓] Go.wp_at_zero Go.wp_at_succ
def fH (w:World) (p:PtrM) (al:Option Addr) (cl:Nat) (plain:Bool) (pick:Int) (X:RunM):Ending->World->Prop:=fun e w'=>(∃p' al' cl',e=.returned (.agg (aM p' al' cl' plain pick X))∧RunIn w' p' al' cl' X∧From w.heap.size p p'∧FromL w.heap.size al al')∧Bw w w'
theorem C6 {w v v2:World} {hb:Nat} {p p':PtrM} {al al':Option Addr} {cl cl':Nat} {plain:Bool} {pick:Int} {r X:RunM} (hE:ExecIn w v hb p al cl plain pick r) (hI:RunIn v2 p' al' cl' X) (hF:From v.heap.size p p') (hL:FromL v.heap.size al al') (hn:Bw v v2) (L:List Value):
 fH w p al cl plain pick X (.returned (.agg (aM p' al' cl' plain pick X))) (v2.setCells (w.heap.size+1) 0 L):=by
 have h1:=(hpl hE.res);have g:=aH (w.heap.size+1) L 0 v2 v2 (aw v2 _);have n:=bst hE.below hn;refine ⟨⟨p',al',cl',rfl,hI.gb g (fun q hq=>?_) (fun q hq=>?_),fun q hq=>?_,fun q hq=>?_⟩,aS (by omega) L 0 v2 n⟩
 ·rcases hF q hq with h | h
  ·have:=hE.ptrs q h;omega
  ·have h':v.heap.size<=q.block:=h;omega
 ·rcases hL q hq with h | h
  ·have:=hE.looks q h;omega
  ·have h':v.heap.size<=q.block:=h;omega
 ·rcases hF q hq with h | h
  ·exact .inl h
  ·exact .inr (Nat.le_trans (by omega) h)
 ·rcases hL q hq with h | h
  ·exact .inl h
  ·exact .inr (Nat.le_trans (by omega) h)
theorem ExecIn.keep {w v v2:World} {hb:Nat} {p:PtrM} {al:Option Addr} {cl:Nat} {plain:Bool} {pick:Int} {r:RunM} (hE:ExecIn w v hb p al cl plain pick r) (hn:Bw v v2):ExecIn w v2 hb p al cl plain pick r:=
 ⟨ag hE.run hn (hpl hE.run),ag hE.res hn (hpl hE.res),ag hE.hart hn (hpl hE.hart),hE.hb,hE.runIn.keep hn,bst hE.below hn,hE.ptrs,hE.looks⟩
theorem Bj {w v v2:World} {hb:Nat} {p:PtrM} {al:Option Addr} {cl:Nat} {plain:Bool} {pick:Int} {r X:RunM} (hE:ExecIn w v hb p al cl plain pick r) (hI:RunIn v2 p al cl X) (hn:Bw w v2) (L:List Value):
 fH w p al cl plain pick X (.returned (.agg (aM p al cl plain pick X))) (v2.setCells (w.heap.size+1) 0 L):=by
 have g:=aH (w.heap.size+1) L 0 v2 v2 (aw v2 _);refine ⟨⟨p,al,cl,rfl,hI.gb g (fun q hq=>?_) (fun q hq=>?_),fun q hq=>.inl hq,fun q hq=>.inl hq⟩,aS (by omega) L 0 v2 hn⟩
 ·have:=hE.ptrs q hq;omega
 ·have:=hE.looks q hq;omega
theorem mW (x m:Int):IntKind.u64.wrap (x+m%18446744073709551616)=(x+m)%18446744073709551616:=by
 show (x+m%18446744073709551616)%18446744073709551616=_;omega
theorem sN (n:Nat) (al:Option Addr):FromL n al al:=fun q hq=>.inl hq
theorem Bk (n:Nat) (p:PtrM):From n p p:=fun q hq=>.inl hq
structure EX where
 w:World
 v:World
 hb:Nat
 a:Nat
 b:Nat
 c:Nat
 p:PtrM
 al:Option Addr
 cl:Nat
 plain:Bool
 pick:Int
 r:RunM
 P:Int
 q:Int
 s:Int
 word:Int
 imm:Int
 jump:Int
 xa:Int
 xb:Int
 xc:Int
 W:Int
 pc:Int
structure ExecH (x:EX):Prop where
 E:ExecIn x.w x.v x.hb x.p x.al x.cl x.plain x.pick x.r
 ok:ROk x.r
 reg:x.r.h.regs.length=8
 pk:0<=x.pick∧x.pick<=255
 c0:x.r.cause=0
 ll:x.r.looks.length<=6
 s:0<=x.s∧x.s<=255
 wd:inU x.word
 pa:x.P%8=x.a∧x.a<8
 pb:x.P/8%8=x.b∧x.b<8
 pq:x.q%8=x.c∧x.c<8
 im:x.imm=iA x.s%18446744073709551616
 ju:x.jump=4*iA x.s%18446744073709551616
 xa:x.xa=gY x.r.h x.a
 xb:x.xb=gY x.r.h x.b
 xc:x.xc=gY x.r.h x.c
 W:x.W=iW ((x.c:Int)%4)
 pc:x.pc=x.r.h.pc
def ru (op:Int) (x:EX):Prop:=∀(Q:Exit->Act->World->Prop) (X:RunM),Hid (fJ x.plain x.pick x.r op x.P x.q x.s x.word=X)->Hid (bodyPost Tryz.prog Tryz.f94 (fH x.w x.p x.al x.cl x.plain x.pick X)=Q)->Ce op x.w x.v x.hb x.a x.b x.c x.P x.q x.s x.word x.imm x.jump x.xa x.xb x.xc x.W x.pc Q
theorem mr {w v v2:World} {hb:Nat} {p p':PtrM} {al al':Option Addr} {cl cl':Nat} {plain:Bool} {pick:Int} {r X Y:RunM} {Q:Exit->Act->World->Prop} (hE:ExecIn w v hb p al cl plain pick r) (hI:RunIn v2 p' al' cl' X) (hF:From v.heap.size p p') (hL:FromL v.heap.size al al') (hn:Bw v v2) (hQ:bodyPost Tryz.prog Tryz.f94 (fH w p al cl plain pick Y)=Q) (hY:Y=X):
 ∃u2,Hid ((Instr.storeAt 61 (PT (w.heap.size+1) 0) (.agg (aM p' al' cl' plain pick X))).run Tryz.prog v2=.ok () u2)∧Hid (∀a:Act,a.tmps[12]?=some (PT (w.heap.size+1) 0)->a.defers=[]->Q .ret a u2):=by
 have hs:=bC p' al' cl' plain pick X;have k6:=ag hE.res hn (hpl hE.res);have hv:=aT (V:=aM p' al' cl' plain pick X) k6 (by rw [hs,aX]);refine ⟨_,bq (P:=Tryz.prog) (T:=61) k6 (by rw [hs];exact dm) (by rw [hs,aX]) (dv _ _ _ _ _ _),fun a ha hd=>?_⟩;rw [<-hQ,hY];exact dx (b:=w.heap.size+1) Tryz.results94 ha (bw (P:=Tryz.prog) hv Tryz.underlying61 rfl (by rw [hs];exact dm)) hd (C6 hE hI hF hL hn _)
theorem vQ {u:World} {b:Nat} {p:PtrM} {al:Option Addr} {cl:Nat} {plain:Bool} {pick:Int} {r:RunM} (h:u.heap[b]?=some (.cells (aM p al cl plain pick r) 61 (0,0))):Hid ((Instr.loadAt 61 (PT b 0)).run Tryz.prog u=.ok (.agg (aM p al cl plain pick r)) u):=
 bf (P:=Tryz.prog) (T:=61) h Tryz.underlying61 rfl (by rw [bC];exact dm)
structure FSq (w:World) (p:PtrM) (al:Option Addr) (cl:Nat) (r:RunM) (A:Array Value) (u:World):Prop where
 run:u.heap[w.heap.size]?=some (.cells A 61 (0,0))
 res:u.heap[w.heap.size+1]?=some (.cells eH 61 (0,0))
 rin:RunIn u p al cl (au r)
 below:Bw w u
 ptrs:∀q,some q∈aV p->q.block<w.heap.size
 looks:∀q,al=some q->q.block<w.heap.size
theorem FSq.of {w v:World} {hb:Nat} {p:PtrM} {al:Option Addr} {cl:Nat} {plain:Bool} {pick:Int} {r:RunM} (h:ExecIn w v hb p al cl plain pick r):FSq w p al cl r (aM p al cl plain pick (au r)) v:=⟨h.run,h.res,h.runIn,h.below,h.ptrs,h.looks⟩
theorem FSq.set {w u:World} {p:PtrM} {al:Option Addr} {cl:Nat} {r:RunM} {A:Array Value} (h:FSq w p al cl r A u) (k:Nat) (x:Value):FSq w p al cl r (A.setIfInBounds k x) (u.setCell (AD w.heap.size k) x):=
 ⟨co h.run k x,eF h.res k x (by omega),h.rin.gb (aq (aw u (some w.heap.size)) k x) (fun q hq=>by have:=h.ptrs q hq;omega) (fun q hq=>by have:=h.looks q hq;omega),cU h.below nle k x,h.ptrs,h.looks⟩
theorem FSq.step {w u u2:World} {p:PtrM} {al:Option Addr} {cl:Nat} {r:RunM} {A:Array Value} (h:FSq w p al cl r A u) (n:Bw u u2):FSq w p al cl r A u2:=
 ⟨ag h.run n (hpl h.run),ag h.res n (hpl h.res),h.rin.keep n,bst h.below n,h.ptrs,h.looks⟩
theorem xU {u:World} {p:PtrM} {al:Option Addr} {cl:Nat} {r X:RunM} (k:RunIn u p al cl r) (hm:X.h.mem=r.h.mem) (hr:X.h.regs=r.h.regs) (hk:X.h.k=r.h.k) (hl:X.looks=r.looks):RunIn u p al cl X:=by
 obtain ⟨⟨k1,k2,k3,k4,k5,k6,k7⟩,k8,k9,k10,k11,k12⟩:=k;rw [<-hm] at k1 k2;rw [<-hr] at k3 k4 k5;rw [<-hk] at k6;rw [<-hl] at k8 k9 k10 k11;exact ⟨⟨k1,k2,k3,k4,k5,k6,k7⟩,k8,k9,k10,k11,k12⟩
theorem FSq.fin {w u:World} {p:PtrM} {al:Option Addr} {cl:Nat} {plain:Bool} {pick:Int} {r X:RunM} {A:Array Value} {Q:Exit->Act->World->Prop} (h:FSq w p al cl r A u) (hQ:bodyPost Tryz.prog Tryz.f94 (fH w p al cl plain pick X)=Q) (hA:A=aM p al cl plain pick X) (hm:X.h.mem=(au r).h.mem) (hr:X.h.regs=(au r).h.regs) (hk:X.h.k=(au r).h.k) (hl:X.looks=(au r).looks):
 ∃E u2,Hid ((Instr.loadAt 61 (PT w.heap.size 0)).run Tryz.prog u=.ok (.agg E) u)∧Hid ((Instr.storeAt 61 (PT (w.heap.size+1) 0) (.agg E)).run Tryz.prog u=.ok () u2)∧Hid (∀a:Act,a.tmps[12]?=some (PT (w.heap.size+1) 0)->a.defers=[]->Q .ret a u2):=by
 subst hA;have hs:=bC p al cl plain pick X;have hI:=xU (X:=X) h.rin hm hr hk hl;have hv:=aT (V:=aM p al cl plain pick X) h.res (by rw [hs,aX]);refine ⟨_,_,vQ h.run,bq (P:=Tryz.prog) (T:=61) h.res (by rw [hs];exact dm) (by rw [hs,aX]) (dv _ _ _ _ _ _),fun a ha hd=>?_⟩;rw [<-hQ];refine dx (b:=w.heap.size+1) Tryz.results94 ha (bw (P:=Tryz.prog) hv Tryz.underlying61 rfl (by rw [hs];exact dm)) hd ?_;have g:=aH (w.heap.size+1) (aM p al cl plain pick X).toList 0 u u (aw u _);refine ⟨⟨p,al,cl,rfl,hI.gb g (fun q hq=>?_) (fun q hq=>?_),fun q hq=>.inl hq,fun q hq=>.inl hq⟩,aS (by omega) _ 0 u h.below⟩
 ·have:=h.ptrs q hq;omega
 ·have:=h.looks q hq;omega
def Al (p:PtrM) (al:Option Addr) (cl:Nat) (plain:Bool) (pick:Int) (X:RunM) (u:World) (e:Ending) (w':World):Prop:=∃p',e=.returned (.agg (aM p' al cl plain pick X))∧RunIn w' p' al cl X∧From u.heap.size p p'∧Bw u w'
theorem Da {p:PtrM} {al:Option Addr} {cl:Nat} {plain:Bool} {pick:Int} {r:RunM} {c t:Int} {u:World} (hu:RunIn u p al cl r):Calls Tryz.prog 91 #[.agg (aM p al cl plain pick r),VI c,VU t] u (Al p al cl plain pick (bY r c t) u):=by
 refine (jL p al cl plain pick r c t u).mono ?_;rintro e w' ⟨rfl,n⟩;exact ⟨p,rfl,xU (hu.keep n) rfl rfl rfl rfl,Bk _ _,n⟩
theorem Ep {p:PtrM} {al:Option Addr} {cl:Nat} {plain:Bool} {pick:Int} {r:RunM} {a:Nat} {V:Int} {u:World} (hu:RunIn u p al cl r) (h8:r.h.regs.length=8) (ha:a<8):Calls Tryz.prog 127 #[.agg (aM p al cl plain pick r),VI (a:Nat),VU V] u (Al p al cl plain pick (cB r a V) u):=by
 refine (jf p al cl plain pick r a V u hu (by omega) (by omega) (by omega)).mono ?_;rintro e w' ⟨⟨p',rfl,h1,h2⟩,n⟩;exact ⟨p',rfl,h1,h2,n⟩
theorem exq {R:Ending->World->Prop} {Q:Exit->Act->World->Prop} {f:Func} (h:bodyPost Tryz.prog f R=Q):Hid (∀x (a:Act) d z w,Q (.panic x) (a.put d z) w->Q (.panic x) a w):=by
 show ∀x (a:Act) d z w,Q (.panic x) (a.put d z) w->Q (.panic x) a w;rw [<-h];exact fun _ _ d _ _ h=>by cases d <;> exact h
end
section
attribute [local go_sem ↓] Go.wp_at_zero Go.wp_at_succ
theorem fC (x:EX) (H:ExecH x) (op:Int) (hc:op=1∨op=2∨op=3∨(op=9∨op=10∨op=11)∧x.r.h.mode=0∨(op=12∨op=13)∧x.r.h.mode≠2∨op=13∧x.r.h.mode=2∧2<x.c∨op=14∨op=0∨15<=op∧op<=255):ru op x:=by
 obtain ⟨w,v,hb,a,b,c,p,al,cl,plain,pick,r,P,q,s,word,imm,jump,xa,xb,xc,W,pc⟩:=x;obtain ⟨hE,hok,hreg,hpk,h0,hll,hs,hwd,hpa,hpb,hpc,him,hju,hxa,hxb,hxc,hW,hpcc⟩:=H;intro Q X HX HQ K hK C
 intros
 dsimp only at *;simp only [el,dl,eS,Tryz.f94,Option.getD] at hK |-;have k3:=ab hE.hart 3 (show (ak p r.h)[3]?=some (VI r.h.mode) from rfl);have hbv:=(hpl hE.hart);have HE:=hid hE;have hmo:=hok.h.v.mode;have HT:Hid (∀c t,X=bY (au r) c t->∀u,RunIn u p al cl (au r)->Calls Tryz.prog 91 #[.agg (aM p al cl plain pick (au r)),VI c,VU t] u (Al p al cl plain pick X u)):=fun c t h u hu=>by rw [h];exact Da hu
 have HS:Hid (∀V,X=cB (au r) a V->∀u,RunIn u p al cl (au r)->Calls Tryz.prog 127 #[.agg (aM p al cl plain pick (au r)),VI (a:Nat),VU V] u (Al p al cl plain pick X u)):=fun V h u hu=>by rw [h];exact Ep hu hreg hpa.2
 have HLd:=vQ hE.run;replace HX:=HX.out;unfold fJ doM at HX;rcases hc with rfl | rfl | rfl | ⟨rfl | rfl | rfl,hm⟩ | ⟨rfl | rfl,hm⟩ | ⟨rfl,hm,hc2⟩ | rfl | rfl | ⟨hb1,hb2⟩;have HC:Hid _:=HS.out imm (by rw [<-HX,if_neg (by simp [bZ]),if_pos rfl,him,<-hpa.1];rfl)
 rotate_left
 have HC:Hid _:=HS.out (IntKind.u64.wrap (xb+xc)) (by rw [<-HX,if_neg (by simp [bZ]),if_neg (by decide),if_pos rfl,hxb,hxc,<-hpb.1,<-hpc.1,<-hpa.1];rfl)
 rotate_left
 have HC:Hid _:=HS.out (IntKind.u64.wrap (xb+imm)) (by rw [<-HX,if_neg (by simp [bZ]),if_neg (by decide),if_neg (by decide),if_pos rfl,hxb,him,<-hpb.1,mW,<-hpa.1];rfl)
 rotate_left
 iterate 3
  have HC:Hid _:=HT.out 2 word (by rw [<-HX,if_pos (by simp [bZ,bL,eE,hm])];rfl);rw [hm] at k3
  rotate_left
 iterate 2
  have HC:Hid _:=HT.out 2 word (by rw [<-HX,if_pos (by simp [bZ,bL,eE,hm])];rfl);generalize r.h.mode=mo at k3 hm
  rotate_left
 have HC:Hid _:=HT.out 2 word (by rw [<-HX,if_pos (by simp only [bZ,bL,eE,hm,hpc.1];simp;omega)];rfl);rw [hm] at k3
 rotate_left
 have HC:Hid _:=HT.out (8+r.h.mode) 0 (by rw [<-HX,if_neg (by simp [bZ]),if_neg (by decide),if_neg (by decide),if_neg (by decide),if_neg (by decide),if_neg (by decide),if_neg (by decide),if_neg (by decide),if_neg (by decide),if_neg (by decide),if_neg (by decide),if_neg (by decide),if_neg (by decide),if_neg (by decide),if_pos rfl];rfl);obtain ⟨hm1,hm2⟩:=hmo
 rotate_left
 have HC:Hid _:=HT.out 2 word (by rw [<-HX,if_neg (by simp [bZ]),if_neg (by decide),if_neg (by decide),if_neg (by decide),if_neg (by decide),if_neg (by decide),if_neg (by decide),if_neg (by decide),if_neg (by decide),if_neg (by decide),if_neg (by decide),if_neg (by decide),if_neg (by decide),if_neg (by decide),if_neg (by decide)];rfl)
 rotate_left
 have HC:Hid _:=HT.out 2 word (by rw [<-HX,if_neg (by simp only [bZ];simp;omega),if_neg (by omega),if_neg (by omega),if_neg (by omega),if_neg (by omega),if_neg (by omega),if_neg (by omega),if_neg (by omega),if_neg (by omega),if_neg (by omega),if_neg (by omega),if_neg (by omega),if_neg (by omega),if_neg (by omega),if_neg (by omega)];rfl)
 rotate_left
 all_goals
  clear HT HS HX hE hok hpa hpb hpc him hju hxa hxb hxc hW hpcc h0 hll hs hwd hpk;generalize aM p al cl plain pick (au r)=D at HC HLd
 focus go_upto_region 21 with fail
 rotate_left
 focus go_upto_region 23 with fail
 rotate_left
 focus go_upto_region 25 with fail
 rotate_left
 iterate 6
  focus go_upto_region 18 with fail
  rotate_left
 focus go_upto_region 72 with fail
 rotate_left
 focus go_upto_region 73 with fail
 rotate_left
 focus go_upto_region 73 with fail
 rotate_left
 all_goals
  as_aux_lemma=>
   go_wp2_with ((with_reducible refine ba ?_ HLd.out ?_);(exact rfl));refine (HC.out v HE.out.runIn).mono ?_;rintro e v2 ⟨p',rfl,hI2,hF2,n2⟩;obtain ⟨u2,HSr,HR⟩:=mr HE.out hI2 hF2 (sN _ _) n2 HQ.out rfl;generalize aM p' al cl plain pick X=E at HSr |-;go_wp2_with ((with_reducible refine aL ?_ ?_ HSr.out ?_);(exact rfl);(exact rfl));exact HR.out _ rfl rfl
end
section
attribute [local go_sem ↓] Go.wp_at_zero Go.wp_at_succ
theorem qD (x:EX) (H:ExecH x) (op:Int) (hc:op=8∧x.xa=x.xb∨op=8∧x.xa≠x.xb∨op=12∧x.r.h.mode=2∨op=13∧x.r.h.mode=2∧¬2<x.c):ru op x:=by
 obtain ⟨w,v,hb,a,b,c,p,al,cl,plain,pick,r,P,q,s,word,imm,jump,xa,xb,xc,W,pc⟩:=x;obtain ⟨hE,hok,hreg,hpk,h0,hll,hs,hwd,hpa,hpb,hpc,him,hju,hxa,hxb,hxc,hW,hpcc⟩:=H;intro Q X HX HQ K hK C
 intros
 dsimp only at *;simp only [el,dl,eS,Tryz.f94,Option.getD] at hK |-;have k3:=ab hE.hart 3 (show (ak p r.h)[3]?=some (VI r.h.mode) from rfl);have hbv:=(hpl hE.hart);have HE:=hid hE;have hav:=(hpl hE.run);have k8:=ab HE.out.hart 8 (show (ak p r.h)[8]?=some (VU r.h.epc) from rfl);have k9:=ab HE.out.hart 9 (show (ak p r.h)[9]?=some (VI r.h.emode) from rfl);have hne:hb≠w.heap.size:=by have:=HE.out.hb;omega
 rcases hc with ⟨rfl,hm⟩ | ⟨rfl,hm⟩ | ⟨rfl,hm⟩ | ⟨rfl,hm,hc2⟩;have hX:X=au r:=by
  rw [<-HX.out];unfold fJ doM;rw [if_neg (by simp [bZ])]
  iterate 7 rw [if_neg (by decide)]
  rw [if_pos rfl,if_pos (by rw [hpa.1,hpb.1];rw [hxa,hxb] at hm;exact hm)];rfl
 obtain ⟨v2,e2,HF⟩:∃v2,v=v2∧Hid (FSq w p al cl r _ v2):=⟨_,rfl,(FSq.of HE.out)⟩;have F2:=HF.out.fin HQ.out (by rw [hX] <;> rfl) (by rw [hX] <;> rfl) (by rw [hX] <;> rfl) (by rw [hX] <;> rfl) (by rw [hX] <;> rfl);clear hX
 rotate_left
 have hX:X=bL (au r) (eE (au r).h (IntKind.u64.wrap (pc+jump))):=by
  rw [<-HX.out];unfold fJ doM;rw [if_neg (by simp [bZ])]
  iterate 7 rw [if_neg (by decide)]
  rw [if_pos rfl,if_neg (by rw [hpa.1,hpb.1];rw [hxa,hxb] at hm;exact hm),hju,mW,hpcc];rfl
 obtain ⟨v2,e2,HF⟩:∃v2,(v.setCell (AD w.heap.size 2) (VU (IntKind.u64.wrap (pc+jump))))=v2∧Hid (FSq w p al cl r _ v2):=⟨_,rfl,((FSq.of HE.out).set 2 (VU (IntKind.u64.wrap (pc+jump))))⟩;have F2:=HF.out.fin HQ.out (by rw [hX] <;> rfl) (by rw [hX] <;> rfl) (by rw [hX] <;> rfl) (by rw [hX] <;> rfl) (by rw [hX] <;> rfl);clear hX;have c2:=ab HE.out.run 2 (show (aM p al cl plain pick (au r))[2]?=some _ from rfl);have f2:=az HE.out.run 2
 rotate_left
 have hX:X=bL (au r) ⟨r.h.mem,r.h.regs,IntKind.u64.wrap (r.h.epc+jump),r.h.emode,r.h.sum,r.h.mxr,r.h.satp,r.h.tvec,r.h.epc,r.h.emode,r.h.cause,r.h.tval,r.h.k⟩:=by
  rw [<-HX.out];unfold fJ doM;rw [if_neg (by simp [bZ,bL,eE,hm])]
  iterate 11 rw [if_neg (by decide)]
  rw [if_pos rfl,hju,mW];rfl
 rw [hm] at k3;obtain ⟨v2,e2,HF⟩:∃v2,((v.setCell (AD w.heap.size 2) (VU (IntKind.u64.wrap (r.h.epc+jump)))).setCell (AD w.heap.size 3) (VI r.h.emode))=v2∧Hid (FSq w p al cl r _ v2):=⟨_,rfl,(((FSq.of HE.out).set 2 (VU (IntKind.u64.wrap (r.h.epc+jump)))).set 3 (VI r.h.emode))⟩;have F2:=HF.out.fin HQ.out (by rw [hX] <;> rfl) (by rw [hX] <;> rfl) (by rw [hX] <;> rfl) (by rw [hX] <;> rfl) (by rw [hX] <;> rfl);clear hX;have c2:=ab HE.out.run 2 (show (aM p al cl plain pick (au r))[2]?=some _ from rfl);have f2:=az HE.out.run 2;have c3:=ab HE.out.run 3 (show (aM p al cl plain pick (au r))[3]?=some _ from rfl);have f3:=az HE.out.run 3
 rotate_left
 have hX:X=bL (au r) ⟨r.h.mem,r.h.regs,(au r).h.pc,r.h.mode,r.h.sum,r.h.mxr,r.h.satp,r.h.tvec,xa,(c:Int),r.h.cause,r.h.tval,r.h.k⟩:=by
  rw [<-HX.out];unfold fJ doM;rw [if_neg (by simp only [bZ,bL,eE,hm,hpc.1];simp;omega)]
  iterate 12 rw [if_neg (by decide)]
  rw [if_pos rfl,hpc.1,hpa.1,hxa];rfl
 rw [hm] at k3;obtain ⟨v2,e2,HF⟩:∃v2,((v.setCell (AD w.heap.size 8) (VU xa)).setCell (AD w.heap.size 9) (VI (c:Nat)))=v2∧Hid (FSq w p al cl r _ v2):=⟨_,rfl,(((FSq.of HE.out).set 8 (VU xa)).set 9 (VI (c:Nat)))⟩;have F2:=HF.out.fin HQ.out (by rw [hX] <;> rfl) (by rw [hX] <;> rfl) (by rw [hX] <;> rfl) (by rw [hX] <;> rfl) (by rw [hX] <;> rfl);clear hX;have c8:=ab HE.out.run 8 (show (aM p al cl plain pick (au r))[8]?=some _ from rfl);have f8:=az HE.out.run 8;have c9:=ab HE.out.run 9 (show (aM p al cl plain pick (au r))[9]?=some _ from rfl);have f9:=az HE.out.run 9
 rotate_left
 all_goals
  obtain ⟨E,u2,HLd,HSr,HR⟩:=F2;clear HF HX hE hok hpa hpb hpc him hju hxa hxb hxc hW hpcc h0 hll hs hwd hpk
 iterate 2
  focus go_upto_region 48 with fail
  rotate_left
 focus go_upto_region 66 with fail
 rotate_left
 focus go_upto_region 70 with fail
 rotate_left
 all_goals
  try rw [e2]
  go_wp2_with (first
   | ((with_reducible refine ba ?_ HLd.out ?_);(exact rfl))
   | ((with_reducible refine aL ?_ ?_ HSr.out ?_);(exact rfl);(exact rfl)))
  exact HR.out _ rfl rfl
end
section
attribute [local go_sem ↓] Go.wp_at_zero Go.wp_at_succ
theorem BL (x:EX) (H:ExecH x) (hmo:x.r.h.mode≠0):ru 9 x:=by
 obtain ⟨w,v,hb,a,b,c,p,al,cl,plain,pick,r,P,q,s,word,imm,jump,xa,xb,xc,W,pc⟩:=x;obtain ⟨hE,hok,hreg,hpk,h0,hll,hs,hwd,hpa,hpb,hpc,him,hju,hxa,hxb,hxc,hW,hpcc⟩:=H;intro Q X HX HQ K hK C
 intros
 dsimp only at *;simp only [el,dl,eS,Tryz.f94,Option.getD] at hK |-;have k3:=ab hE.hart 3 (show (ak p r.h)[3]?=some (VI r.h.mode) from rfl);have hbv:=(hpl hE.hart);have HE:=hid hE;have HXu:inU xa:=by rw [hxa];exact hok.h.regs _
 have HX2:Hid (X=if dh xa=true then bL (au r) ⟨r.h.mem,r.h.regs,(au r).h.pc,r.h.mode,r.h.sum,r.h.mxr,xa,r.h.tvec,r.h.epc,r.h.emode,r.h.cause,r.h.tval,r.h.k⟩ else au r):=by
  show _=_;rw [<-HX.out];unfold fJ doM;rw [if_neg (by simp [bZ,bL,eE,hmo])]
  iterate 8 rw [if_neg (by decide)]
  rw [if_pos rfl,hpa.1,hxa];rfl
 generalize r.h.mode=mo at k3 hmo;clear HX hE hok hpa hpb hpc him hju hxa hxb hxc hW hpcc h0 hll hs hwd hpk;go_upto_region 50 with fail;go_wp2_with fail;refine (jl xa v HXu.1 HXu.2).mono ?_;rintro e v1 ⟨rfl,nS⟩;have HE2:=hid (HE.out.keep nS);clear k3 hbv nS HE;have hav:=(hpl HE2.out.run);have c6:=ab HE2.out.run 6 (show (aM p al cl plain pick (au r))[6]?=some _ from rfl);have f6:=az HE2.out.run 6;have hX:=HX2.out;clear HX2;cases hsc:dh xa;rw [hsc,if_neg (by decide)] at hX;obtain ⟨v2,e2,HF⟩:∃v2,v1=v2∧Hid (FSq w p al cl r _ v2):=⟨_,rfl,(FSq.of HE2.out)⟩
 rotate_left
 rw [hsc,if_pos rfl] at hX;obtain ⟨v2,e2,HF⟩:∃v2,v1.setCell (AD w.heap.size 6) (VU xa)=v2∧Hid (FSq w p al cl r _ v2):=⟨_,rfl,(FSq.of HE2.out).set 6 (VU xa)⟩
 rotate_left
 all_goals
  obtain ⟨E,u2,HLd,HSr,HR⟩:=HF.out.fin HQ.out (by rw [hX] <;> rfl) (by rw [hX] <;> rfl) (by rw [hX] <;> rfl) (by rw [hX] <;> rfl) (by rw [hX] <;> rfl);clear hX HF;go_upto_region 52 with fail;try rw [e2]
  go_wp2_with (first
   | ((with_reducible refine ba ?_ HLd.out ?_);(exact rfl))
   | ((with_reducible refine aL ?_ ?_ HSr.out ?_);(exact rfl);(exact rfl)))
  exact HR.out _ rfl rfl
end
section
attribute [local go_sem ↓] Go.wp_at_zero Go.wp_at_succ
theorem DM (x:EX) (H:ExecH x):ru 4 x:=by
 obtain ⟨w,v,hb,a,b,c,p,al,cl,plain,pick,r,P,q,s,word,imm,jump,xa,xb,xc,W,pc⟩:=x;obtain ⟨hE,hok,hreg,hpk,h0,hll,hs,hwd,hpa,hpb,hpc,him,hju,hxa,hxb,hxc,hW,hpcc⟩:=H;intro Q X HX0 HQ K hK C
 intros
 dsimp only at *;simp only [el,dl,eS,Tryz.f94,Option.getD] at hK |-;have HE:=hid hE;have HQp:=exq HQ.out;have HX:Hid (fJ plain pick r 4 P q s word=(cB (au r) (a:Int) (IntKind.u64.wrap (xb*iW (s%64))))):=by
  show _=_;unfold fJ doM;rw [if_neg (by simp [bZ]),if_neg (by decide),if_neg (by decide),if_neg (by decide),if_pos rfl,hxb,<-hpb.1,<-hpa.1];rfl
 have hX:=HX0.out;have HX':Hid (X=(cB (au r) (a:Int) (IntKind.u64.wrap (xb*iW (s%64))))):=by show _=_;rw [<-hX];exact HX.out
 clear HX0;have ha8:=hpa.2;obtain ⟨hs1,hs2⟩:=hs;have HTm:Hid (s.tmod 64=s%64):=Int.tmod_eq_emod_of_nonneg hs1;clear hX HX hE hok hpa hpb hpc him hju hxa hxb hxc hW hpcc h0 hll;have HSR:=hid fun u (hu:RunIn u p al cl (au r))=>jf p al cl plain pick (au r) a (IntKind.u64.wrap (xb*iW (s%64))) u hu (by omega) (by show (a:Int).toNat<r.h.regs.length;omega) (by show r.h.regs.length<=_;omega);have hRs:=bC p al cl plain pick (au r);have HLr:=hid fun (u:World) (hu:u.heap[w.heap.size]?=some (.cells (aM p al cl plain pick (au r)) 61 (0,0)))=>bf (P:=Tryz.prog) (T:=61) hu Tryz.underlying61 rfl (by rw [hRs];exact dm);have HRv:=hid HE.out.run;generalize aM p al cl plain pick (au r)=D at HSR hRs HLr HRv;go_upto_region 27 with fail;have hF:=HRv.out;refine aN (fun u=>u.heap[w.heap.size]?=some (.cells D 61 (0,0))) 8 ?_;refine ax 0 141 (.agg D) rfl hF ?_ (hQ:=hqp HQp) (hy:=fun u hu=>aU rfl (HLr.out u hu));refine ax 1 142 (VI (a:Nat)) rfl hF ?_ (hQ:=hqp HQp);refine ax 2 143 (VU xb) rfl hF ?_ (hQ:=hqp HQp);refine ax 3 144 (VI s) rfl hF ?_ (hQ:=hqp HQp)
 go_frame
 refine ax 4 145 (VI (s%64)) rfl hF ?_ (hQ:=hqp HQp) (hy:=fun u hu=>(by have h1:=HTm.out;go_simp))
 go_frame
 refine dN 5 146 rfl (f:=84) (args:=#[VI (s%64)]) ?_;refine (bj (s%64) (iW (s%64)) v.drew (by omega) rfl).mono ?_;rintro e v1 ⟨rfl,rfl⟩;refine ⟨_,rfl,fun _=>hF,?_⟩
 go_frame
 refine ax 6 147 (VU (IntKind.u64.wrap (xb*iW (s%64)))) rfl hF ?_ (hQ:=hqp HQp)
 go_frame
 refine dN 7 148 rfl (f:=127) (args:=#[.agg D,VI (a:Nat),VU (IntKind.u64.wrap (xb*iW (s%64)))]) ?_;refine (HSR.out v.drew (HE.out.runIn.keep ((brf).drew))).mono ?_;rintro e v2 ⟨⟨p',rfl,hI2,hF2⟩,n2'⟩;have n2:Bw v v2:=bst ((brf).drew) n2';refine ⟨_,rfl,fun _=>ag HRv.out n2 (hpl HRv.out),?_⟩
 go_frame
 obtain ⟨u2,HSr,HR⟩:=mr HE.out hI2 hF2 (sN _ _) n2 HQ.out HX'.out;generalize aM p' al cl plain pick (cB (au r) (a:Int) (IntKind.u64.wrap (xb*iW (s%64))))=E at HSr |-;refine dO 8 12 148 rfl HSr.out ?_;refine dt ?_;go_wp2_with fail;exact HR.out _ rfl rfl
end
end Go.Proofs.YtkenjknmfhoppaaGreat
