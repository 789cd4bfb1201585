import Derived.Test.YthdgiakgepmabaaGreatDk22
namespace Go.Proofs.YthdgiakgepmabaaGreat
open Go.RowKit
set_option linter.unusedVariables false
set_option maxHeartbeats 6400000
set_option maxRecDepth 20000
section
attribute [local go_sem ↓] Go.wp_at_zero Go.wp_at_succ
def df:Nat->Code->Code
 | 0,c=>c
 | n+1,.seq _ c=>df n c
 | _+1,c=>c
def eg:Code->Code
 | .seq c _=>c
 | c=>c
def eM (f:Func):Code:=f.body.getD .skip
def aB (r:RunM):RunM:=bA r (dL r.h ((r.h.pc+4)%18446744073709551616))
structure ExecIn (w v:World) (hb:Nat) (p:PtrM) (al:Option Addr) (cl:Nat) (plain:Bool) (pick:Int) (r:RunM):Prop where
 run:v.heap[w.heap.size]?=some (.cells (aG p al cl plain pick (aB r)) 54 (0,0))
 res:v.heap[w.heap.size+1]?=some (.cells eS 54 (0,0))
 hart:v.heap[hb]?=some (.cells (ak p r.h) 44 (0,0))
 hb:w.heap.size+1<hb
 runIn:RunIn v p al cl (aB r)
 below:Bw w v
 ptrs:∀q,some q∈be p->q.block<w.heap.size
 looks:∀q,al=some q->q.block<w.heap.size
def Cy (op:Int) (w v:World) (hb a b c:Nat) (P q s word imm jump xa xb xc W pc:Int) (Q:Exit->Act->World->Prop):Prop:=
 ∀K:Act->World->Prop,(∀a w,(df 15 (eM Tryz.f70)).wp Tryz.prog Q a w->K a w)->∀(C:Array Value) (u32 u33 u34 u35 u36 u37 u38 u39 u40 u41 u42 u43 u44 u45 u46 u47 u48 u49 u50 u51 u52 u53 u54 u55 u56 u57 u58 u59 u60 u61 u62 u63 u64 u65 u66 u67 u68 u69 u70 u71 u72 u73 u74 u75 u76 u77 u78 u79:Value),(eg (df 14 (eM Tryz.f70))).wp Tryz.prog (Exit.then K Q) ⟨#[.agg C,VI op,VI P,VI q,VI s,VU word,PT w.heap.size 0,undef,undef,undef,undef,undef,PT (w.heap.size+1) 0,PT hb 0,VI (a:Nat),VI (b:Nat),VI (c:Nat),VU imm,VU jump,VU xa,VU xb,VU xc,VI W,VU pc,undef,undef,undef,undef,undef,undef,undef,undef,u32,u33,u34,u35,u36,u37,u38,u39,u40,u41,u42,u43,u44,u45,u46,u47,u48,u49,u50,u51,u52,u53,u54,u55,u56,u57,u58,u59,u60,u61,u62,u63,u64,u65,u66,u67,u68,u69,u70,u71,u72,u73,u74,u75,u76,u77,u78,u79,undef,undef,undef,undef,undef,undef,undef,undef,undef,undef,undef,undef,undef,undef,undef,undef,undef,undef,undef,undef,undef,undef,undef,undef,undef,undef,undef,undef,undef,undef,undef,undef,undef,undef,undef,undef,undef,undef,undef,undef,undef,undef,undef,undef,undef,undef,undef,undef,undef,undef,undef,undef,undef,undef,undef,undef,undef,undef,undef,undef,undef,undef,undef,undef,undef,undef,undef,undef,undef,undef,undef,undef,undef,undef,undef,undef,undef,undef,undef,undef,undef,undef,undef,undef,undef,undef,undef,undef,undef,undef,undef,undef,undef,undef,undef,undef,undef,undef,undef,undef,undef,undef,undef,undef,undef,undef,undef,undef,undef,undef,undef,undef,undef,undef,undef,undef,undef,undef,undef,undef,undef,undef,undef,undef,undef,undef,undef,undef,undef,undef,undef,undef,undef,undef,undef,undef,undef,undef,undef,undef,undef,undef,undef,undef,undef,undef,undef,undef,undef,undef,undef,undef,undef,undef,undef,undef,undef,undef,undef,undef,undef,undef,undef,undef,undef,undef,undef,undef,undef,undef,undef,undef,undef,undef,undef,undef,undef,undef,undef,undef,undef,undef,undef,undef,undef,undef,undef,undef,undef,undef,undef,undef,undef,undef,undef,undef,undef,undef,undef,undef,undef,undef,undef,undef,undef,undef,undef,undef,undef,undef,undef,undef,undef,undef,undef,undef,undef,undef,undef,undef,undef,undef,undef,undef,undef,undef,undef,undef,undef,undef,undef,undef,undef,undef,undef,undef,undef,undef,undef,undef,undef,undef,undef,undef,undef,undef,undef,undef],[]⟩ v
theorem uK (p:PtrM) (al:Option Addr) (cl:Nat) (plain:Bool) (pick:Int) (r:RunM) (op P q s word:Int) (w:World) (hr:RunIn w p al cl r) (hk:ROk r) (hreg:r.h.regs.length=8)
 (hop:0<=op∧op<=255) (hp:0<=P∧P<=255) (hq:0<=q∧q<=255) (hs:0<=s∧s<=255) (R:Ending->World->Prop)
 (H:∀(v:World) (hb a b c:Nat) (imm jump xa xb xc W pc:Int),ExecIn w v hb p al cl plain pick r->P%8=a∧a<8->P/8%8=b∧b<8->q%8=c∧c<8->imm=hZ s%18446744073709551616->jump=4*hZ s%18446744073709551616->xa=fO r.h a->xb=fO r.h b->xc=fO r.h c->W=iO ((c:Int)%4)->pc=r.h.pc->Cy op w v hb a b c P q s word imm jump xa xb xc W pc (bodyPost Tryz.prog Tryz.f70 R)):
  Calls Tryz.prog 70 #[.agg (aG p al cl plain pick r),VI op,VI P,VI q,VI s,VU word] w R:=by
 have HH:Hid _:=H;clear H;have HX:Hid (∀(C:Array Value),aG p al cl plain pick r=C->aG p al cl plain pick (aB r)=C.setIfInBounds 2 (VU ((r.h.pc+4)%18446744073709551616))):=fun C h=>by rw [<-h];rfl
 have HI:=hid hr;have HOK:=hid hk;have hsz:=bP p al cl plain pick r;have HHt:Hid (((aG p al cl plain pick r).toList.drop 0).take 21=(ak p r.h).toList):=rfl;have hhs:=et p r.h;have gH1:(ak p r.h)[1]?=some (.slice p.ar r.h.regs.length p.cr):=rfl;have gH2:(ak p r.h)[2]?=some (VU r.h.pc):=rfl;have gC2:(aG p al cl plain pick r)[2]?=some (VU r.h.pc):=rfl;have HHo:=hid (gF p r.h);have hpt:=hr.h.low;have hlo:=hr.low;generalize hC:aG p al cl plain pick r=C at hsz HHt gC2 |-;have HC:Hid _:=hC;generalize hD:ak p r.h=D at HHt hhs gH1 gH2 HHo;have HD:Hid _:=hD;clear hr hk hC hD;go_enter Tryz.func70,Tryz.ntmps70;go_upto_region 1 with fail;obtain ⟨v1,Ev1,F⟩:=ax2 w C eS 54 54;rw [Ev1.out];clear Ev1;obtain ⟨h3,h6,l1,n1⟩:=F;have H3:Hid _:=h3;have H6:Hid _:=h6;have b1:w.heap.size<v1.heap.size:=by omega
 have b2:w.heap.size+1<v1.heap.size:=by omega
 clear h3 h6 l1;have HLh:Hid _:=eA (P:=Tryz.prog) (T:=44) H3.out Tryz.underlying44 rfl (o:=0) D.toList fy HHt.out (by rw [Array.length_toList,hhs]);simp only [Array.toArray_toList] at HLh;have a1:=bF v1 fw 44;have HSh:Hid _:=aR (P:=Tryz.prog) (T:=44) (V:=D) a1.1 (by rw [hhs];exact fy) (by rw [hhs,eN]) HHo.out;have K5:Hid _:=aI (V:=D) a1.1 (by rw [hhs,eN]);have n2:=bst n1 a1.2.2;have n3:=aK (show w.heap.size<=v1.heap.size by omega) D.toList 0 _ n2;have K3:Hid _:=gY (ae H3.out a1.2.2 b1) 0 D.toList (show w.heap.size≠v1.heap.size by omega);have K6:Hid _:=gY (ae H6.out a1.2.2 b2) 0 D.toList (show w.heap.size+1≠v1.heap.size by omega);have s2:v1.heap.size<((v1.alloc (Obj.cells fw 44)).setCells v1.heap.size 0 D.toList).heap.size:=by rw [cF];omega
 clear a1;go_upto_region 2 with (first
  | ((with_reducible refine bj ?_ HLh.out ?_);(exact rfl))
  | ((with_reducible refine az ?_ ?_ HSh.out ?_);(exact rfl);(exact rfl)))
 generalize (v1.alloc (Obj.cells fw 44)).setCells v1.heap.size 0 D.toList=v2 at K3 K5 K6 n3 s2 |-;clear HLh HSh n2 H3 H6 n1;obtain ⟨hp1,hp2⟩:=hp;obtain ⟨hq1,hq2⟩:=hq;obtain ⟨hs1,hs2⟩:=hs;obtain ⟨a,ha,ha8⟩:∃a:Nat,P%8=a∧a<8:=⟨(P%8).toNat,by omega,by omega⟩;obtain ⟨b,hb,hb8⟩:∃b:Nat,P/8%8=b∧b<8:=⟨(P/8%8).toNat,by omega,by omega⟩;obtain ⟨c,hc,hc8⟩:∃c:Nat,q%8=c∧c<8:=⟨(q%8).toNat,by omega,by omega⟩;obtain ⟨W,hW⟩:∃W,iO ((c:Int)%4)=W:=⟨_,rfl⟩;have HW:Hid (W=2^((c:Int)%4).toNat):=hW.symm;have hW1:1<=W∧W<=8:=by
  rw [<-hW];have hc4:(c:Int)%4=0∨(c:Int)%4=1∨(c:Int)%4=2∨(c:Int)%4=3:=by omega
  rcases hc4 with h | h | h | h <;> rw [h] <;> decide
 obtain ⟨hW1,hW8⟩:=hW1;have HWm:Hid (iO ((c:Int)%4)=W):=hW;clear hW;rcases HI.out.h.regs.2 with h0 | ⟨rb,ro,har,hrlt,hcell⟩
 ·omega
 rw [har,hreg] at gH1;have hrw:rb<v2.heap.size:=ltl hrlt n3.size;have HCl:Hid (∀n:Nat,n<8->v2.cell? ⟨rb,ro+n,none⟩=some (VU (fO r.h n))):=fun n hn=>Below.cell2 n3 (hcell n _ (rX r.h.regs n (by omega))) hrlt;have ca:=HCl.out a ha8;have cb:=HCl.out b hb8;have cc:=HCl.out c hc8;have k1:=ab K5.out 1 gH1;have k2:=ab K5.out 2 gH2;have k3:=ab K3.out 2 gC2;have k4:=ap K3.out 2;have hpc:=HOK.out.h.pc;have hcr:=HI.out.h.regc;rw [hreg] at hcr;have b3:w.heap.size<v2.heap.size:=by omega
 obtain ⟨xa,hxa⟩:∃xa,fO r.h a=xa:=⟨_,rfl⟩;obtain ⟨xb,hxb⟩:∃xb,fO r.h b=xb:=⟨_,rfl⟩;obtain ⟨xc,hxc⟩:∃xc,fO r.h c=xc:=⟨_,rfl⟩;obtain ⟨pc,hpc'⟩:∃pc,r.h.pc=pc:=⟨_,rfl⟩;rw [hxa] at ca;rw [hxb] at cb;rw [hxc] at cc;rw [hpc'] at k2 k3 hpc;have HXa:=hid hxa.symm;have HXb:=hid hxb.symm;have HXc:=hid hxc.symm;have HPc:=hid hpc'.symm;have HpA:Hid (P%8=a∧a<8):=⟨ha,ha8⟩;have HpB:Hid (P/8%8=b∧b<8):=⟨hb,hb8⟩;have HpC:Hid (q%8=c∧c<8):=⟨hc,hc8⟩;clear hxa hxb hxc hpc';have hpc1:=hpc.1;have hpc2:=hpc.2;clear hpc;have HE:Hid (ExecIn w (v2.setCell (AD w.heap.size 2) (VU (IntKind.u64.wrap (pc+4)))) v1.heap.size p al cl plain pick r):=by
  have hwr:IntKind.u64.wrap (pc+4)=(r.h.pc+4)%18446744073709551616:=by rw [HPc.out];rfl
  have nn:=cH n3 nle 2 (VU (IntKind.u64.wrap (pc+4)));refine ⟨?_,eL K6.out 2 _ (by omega),?_,by omega,?_,nn,hpt,hlo⟩
  ·rw [HX.out C HC.out,<-hwr];exact cf K3.out 2 _
  ·rw [HD.out];exact eL K5.out 2 _ (by omega)
  ·have k:=HI.out.keep nn;exact ⟨⟨k.h.mem,k.h.memc,k.h.regs,k.h.regc,k.h.rega,k.h.ks,k.h.low⟩,k.looks,k.lookc,k.looka,k.lookl,k.low⟩
 clear K3 K5 K6 gH1 gH2 gC2;have HX':=HX;clear HX hpt hlo n3;clear hcell;by_cases h128:128<=s
 ·go_upto_region 10 with fail;rw [ha,hb,hc];clear ha hb hc;go_upto_region 13 with fail;go_upto_region 14 with (go_at_call 62;refine (cO ((c:Int)%4) W _ (by omega) HW.out).mono ?_;rintro e w' ⟨rfl,rfl⟩);go_upto_region 16 with fail;refine HH.out _ v1.heap.size a b c _ _ xa xb xc W pc HE.out HpA.out HpB.out HpC.out ?_ ?_ HXa.out HXb.out HXc.out HWm.out.symm HPc.out _ (by assumption) C _ _ _ _ _ _ _ _ _ _ _ _ _ _ _ _ _ _ _ _ _ _ _ _ _ _ _ _ _ _ _ _ _ _ _ _ _ _ _ _ _ _ _ _ _ _ _ _
  ·unfold hZ;rw [if_pos h128];rfl
  ·unfold hZ;rw [if_pos h128];rfl
 ·go_upto_region 10 with fail;rw [ha,hb,hc];clear ha hb hc;go_upto_region 13 with fail;go_upto_region 14 with (go_at_call 62;refine (cO ((c:Int)%4) W _ (by omega) HW.out).mono ?_;rintro e w' ⟨rfl,rfl⟩);go_upto_region 16 with fail;refine HH.out _ v1.heap.size a b c _ _ xa xb xc W pc HE.out HpA.out HpB.out HpC.out ?_ ?_ HXa.out HXb.out HXc.out HWm.out.symm HPc.out _ (by assumption) C _ _ _ _ _ _ _ _ _ _ _ _ _ _ _ _ _ _ _ _ _ _ _ _ _ _ _ _ _ _ _ _ _ _ _ _ _ _ _ _ _ _ _ _ _ _ _ _
  ·unfold hZ;rw [if_neg (by omega)];omega
  ·unfold hZ;rw [if_neg (by omega)];omega
end
section
attribute [local go_sem ↓] Go.wp_at_zero Go.wp_at_succ
def fG (w:World) (p:PtrM) (al:Option Addr) (cl:Nat) (plain:Bool) (pick:Int) (X:RunM):Ending->World->Prop:=fun e w'=>(∃p' al' cl',e=.returned (.agg (aG p' al' cl' plain pick X))∧RunIn w' p' al' cl' X∧From w.heap.size p p'∧FromL w.heap.size al al')∧Bw w w'
theorem DD {w v v2:World} {hb:Nat} {p p':PtrM} {al al':Option Addr} {cl cl':Nat} {plain:Bool} {pick:Int} {r X:RunM} (hE:ExecIn w v hb p al cl plain pick r) (hI:RunIn v2 p' al' cl' X) (hF:From v.heap.size p p') (hL:FromL v.heap.size al al') (hn:Bw v v2) (L:List Value):
 fG w p al cl plain pick X (.returned (.agg (aG p' al' cl' plain pick X))) (v2.setCells (w.heap.size+1) 0 L):=by
 have h1:=(hpl hE.res);have g:=aH (w.heap.size+1) L 0 v2 v2 (ao v2 _);have n:=bst hE.below hn;refine ⟨⟨p',al',cl',rfl,hI.gb g (fun q hq=>?_) (fun q hq=>?_),fun q hq=>?_,fun q hq=>?_⟩,aK (by omega) L 0 v2 n⟩
 ·rcases hF q hq with h | h
  ·have:=hE.ptrs q h;omega
  ·have h':v.heap.size<=q.block:=h;omega
 ·rcases hL q hq with h | h
  ·have:=hE.looks q h;omega
  ·have h':v.heap.size<=q.block:=h;omega
 ·rcases hF q hq with h | h
  ·exact .inl h
  ·exact .inr (Nat.le_trans (by omega) h)
 ·rcases hL q hq with h | h
  ·exact .inl h
  ·exact .inr (Nat.le_trans (by omega) h)
theorem ExecIn.keep {w v v2:World} {hb:Nat} {p:PtrM} {al:Option Addr} {cl:Nat} {plain:Bool} {pick:Int} {r:RunM} (hE:ExecIn w v hb p al cl plain pick r) (hn:Bw v v2):ExecIn w v2 hb p al cl plain pick r:=
 ⟨ae hE.run hn (hpl hE.run),ae hE.res hn (hpl hE.res),ae hE.hart hn (hpl hE.hart),hE.hb,hE.runIn.keep hn,bst hE.below hn,hE.ptrs,hE.looks⟩
theorem BH {w v v2:World} {hb:Nat} {p:PtrM} {al:Option Addr} {cl:Nat} {plain:Bool} {pick:Int} {r X:RunM} (hE:ExecIn w v hb p al cl plain pick r) (hI:RunIn v2 p al cl X) (hn:Bw w v2) (L:List Value):
 fG w p al cl plain pick X (.returned (.agg (aG p al cl plain pick X))) (v2.setCells (w.heap.size+1) 0 L):=by
 have g:=aH (w.heap.size+1) L 0 v2 v2 (ao v2 _);refine ⟨⟨p,al,cl,rfl,hI.gb g (fun q hq=>?_) (fun q hq=>?_),fun q hq=>.inl hq,fun q hq=>.inl hq⟩,aK (by omega) L 0 v2 hn⟩
 ·have:=hE.ptrs q hq;omega
 ·have:=hE.looks q hq;omega
theorem mG (x m:Int):IntKind.u64.wrap (x+m%18446744073709551616)=(x+m)%18446744073709551616:=by
 show (x+m%18446744073709551616)%18446744073709551616=_;omega
theorem sG (n:Nat) (al:Option Addr):FromL n al al:=fun q hq=>.inl hq
theorem BI (n:Nat) (p:PtrM):From n p p:=fun q hq=>.inl hq
structure EX where
 w:World
 v:World
 hb:Nat
 a:Nat
 b:Nat
 c:Nat
 p:PtrM
 al:Option Addr
 cl:Nat
 plain:Bool
 pick:Int
 r:RunM
 P:Int
 q:Int
 s:Int
 word:Int
 imm:Int
 jump:Int
 xa:Int
 xb:Int
 xc:Int
 W:Int
 pc:Int
structure ExecH (x:EX):Prop where
 E:ExecIn x.w x.v x.hb x.p x.al x.cl x.plain x.pick x.r
 ok:ROk x.r
 reg:x.r.h.regs.length=8
 pk:0<=x.pick∧x.pick<=255
 c0:x.r.cause=0
 ll:x.r.looks.length<=6
 s:0<=x.s∧x.s<=255
 wd:inU x.word
 pa:x.P%8=x.a∧x.a<8
 pb:x.P/8%8=x.b∧x.b<8
 pq:x.q%8=x.c∧x.c<8
 im:x.imm=hZ x.s%18446744073709551616
 ju:x.jump=4*hZ x.s%18446744073709551616
 xa:x.xa=fO x.r.h x.a
 xb:x.xb=fO x.r.h x.b
 xc:x.xc=fO x.r.h x.c
 W:x.W=iO ((x.c:Int)%4)
 pc:x.pc=x.r.h.pc
def sH (op:Int) (x:EX):Prop:=∀(Q:Exit->Act->World->Prop) (X:RunM),Hid (eT x.plain x.pick x.r op x.P x.q x.s x.word=X)->Hid (bodyPost Tryz.prog Tryz.f70 (fG x.w x.p x.al x.cl x.plain x.pick X)=Q)->Cy op x.w x.v x.hb x.a x.b x.c x.P x.q x.s x.word x.imm x.jump x.xa x.xb x.xc x.W x.pc Q
theorem lU {w v v2:World} {hb:Nat} {p p':PtrM} {al al':Option Addr} {cl cl':Nat} {plain:Bool} {pick:Int} {r X Y:RunM} {Q:Exit->Act->World->Prop} (hE:ExecIn w v hb p al cl plain pick r) (hI:RunIn v2 p' al' cl' X) (hF:From v.heap.size p p') (hL:FromL v.heap.size al al') (hn:Bw v v2) (hQ:bodyPost Tryz.prog Tryz.f70 (fG w p al cl plain pick Y)=Q) (hY:Y=X):
 ∃u2,Hid ((Instr.storeAt 54 (PT (w.heap.size+1) 0) (.agg (aG p' al' cl' plain pick X))).run Tryz.prog v2=.ok () u2)∧Hid (∀a:Act,a.tmps[12]?=some (PT (w.heap.size+1) 0)->a.defers=[]->Q .ret a u2):=by
 have hs:=bP p' al' cl' plain pick X;have k6:=ae hE.res hn (hpl hE.res);have hv:=aI (V:=aG p' al' cl' plain pick X) k6 (by rw [hs,aS]);refine ⟨_,aR (P:=Tryz.prog) (T:=54) k6 (by rw [hs];exact dq) (by rw [hs,aS]) (dM _ _ _ _ _ _),fun a ha hd=>?_⟩;rw [<-hQ,hY];exact dE (b:=w.heap.size+1) Tryz.results70 ha (bC (P:=Tryz.prog) hv Tryz.underlying54 rfl (by rw [hs];exact dq)) hd (DD hE hI hF hL hn _)
theorem vw {u:World} {b:Nat} {p:PtrM} {al:Option Addr} {cl:Nat} {plain:Bool} {pick:Int} {r:RunM} (h:u.heap[b]?=some (.cells (aG p al cl plain pick r) 54 (0,0))):Hid ((Instr.loadAt 54 (PT b 0)).run Tryz.prog u=.ok (.agg (aG p al cl plain pick r)) u):=
 aW (P:=Tryz.prog) (T:=54) h Tryz.underlying54 rfl (by rw [bP];exact dq)
structure FSq (w:World) (p:PtrM) (al:Option Addr) (cl:Nat) (r:RunM) (A:Array Value) (u:World):Prop where
 run:u.heap[w.heap.size]?=some (.cells A 54 (0,0))
 res:u.heap[w.heap.size+1]?=some (.cells eS 54 (0,0))
 rin:RunIn u p al cl (aB r)
 below:Bw w u
 ptrs:∀q,some q∈be p->q.block<w.heap.size
 looks:∀q,al=some q->q.block<w.heap.size
theorem FSq.of {w v:World} {hb:Nat} {p:PtrM} {al:Option Addr} {cl:Nat} {plain:Bool} {pick:Int} {r:RunM} (h:ExecIn w v hb p al cl plain pick r):FSq w p al cl r (aG p al cl plain pick (aB r)) v:=⟨h.run,h.res,h.runIn,h.below,h.ptrs,h.looks⟩
theorem FSq.set {w u:World} {p:PtrM} {al:Option Addr} {cl:Nat} {r:RunM} {A:Array Value} (h:FSq w p al cl r A u) (k:Nat) (x:Value):FSq w p al cl r (A.setIfInBounds k x) (u.setCell (AD w.heap.size k) x):=
 ⟨cf h.run k x,eL h.res k x (by omega),h.rin.gb (au (ao u (some w.heap.size)) k x) (fun q hq=>by have:=h.ptrs q hq;omega) (fun q hq=>by have:=h.looks q hq;omega),cH h.below nle k x,h.ptrs,h.looks⟩
theorem FSq.step {w u u2:World} {p:PtrM} {al:Option Addr} {cl:Nat} {r:RunM} {A:Array Value} (h:FSq w p al cl r A u) (n:Bw u u2):FSq w p al cl r A u2:=
 ⟨ae h.run n (hpl h.run),ae h.res n (hpl h.res),h.rin.keep n,bst h.below n,h.ptrs,h.looks⟩
theorem xV {u:World} {p:PtrM} {al:Option Addr} {cl:Nat} {r X:RunM} (k:RunIn u p al cl r) (hm:X.h.mem=r.h.mem) (hr:X.h.regs=r.h.regs) (hk:X.h.k=r.h.k) (hl:X.looks=r.looks):RunIn u p al cl X:=by
 obtain ⟨⟨k1,k2,k3,k4,k5,k6,k7⟩,k8,k9,k10,k11,k12⟩:=k;rw [<-hm] at k1 k2;rw [<-hr] at k3 k4 k5;rw [<-hk] at k6;rw [<-hl] at k8 k9 k10 k11;exact ⟨⟨k1,k2,k3,k4,k5,k6,k7⟩,k8,k9,k10,k11,k12⟩
theorem FSq.fin {w u:World} {p:PtrM} {al:Option Addr} {cl:Nat} {plain:Bool} {pick:Int} {r X:RunM} {A:Array Value} {Q:Exit->Act->World->Prop} (h:FSq w p al cl r A u) (hQ:bodyPost Tryz.prog Tryz.f70 (fG w p al cl plain pick X)=Q) (hA:A=aG p al cl plain pick X) (hm:X.h.mem=(aB r).h.mem) (hr:X.h.regs=(aB r).h.regs) (hk:X.h.k=(aB r).h.k) (hl:X.looks=(aB r).looks):
 ∃E u2,Hid ((Instr.loadAt 54 (PT w.heap.size 0)).run Tryz.prog u=.ok (.agg E) u)∧Hid ((Instr.storeAt 54 (PT (w.heap.size+1) 0) (.agg E)).run Tryz.prog u=.ok () u2)∧Hid (∀a:Act,a.tmps[12]?=some (PT (w.heap.size+1) 0)->a.defers=[]->Q .ret a u2):=by
 subst hA;have hs:=bP p al cl plain pick X;have hI:=xV (X:=X) h.rin hm hr hk hl;have hv:=aI (V:=aG p al cl plain pick X) h.res (by rw [hs,aS]);refine ⟨_,_,vw h.run,aR (P:=Tryz.prog) (T:=54) h.res (by rw [hs];exact dq) (by rw [hs,aS]) (dM _ _ _ _ _ _),fun a ha hd=>?_⟩;rw [<-hQ];refine dE (b:=w.heap.size+1) Tryz.results70 ha (bC (P:=Tryz.prog) hv Tryz.underlying54 rfl (by rw [hs];exact dq)) hd ?_;have g:=aH (w.heap.size+1) (aG p al cl plain pick X).toList 0 u u (ao u _);refine ⟨⟨p,al,cl,rfl,hI.gb g (fun q hq=>?_) (fun q hq=>?_),fun q hq=>.inl hq,fun q hq=>.inl hq⟩,aK (by omega) _ 0 u h.below⟩
 ·have:=h.ptrs q hq;omega
 ·have:=h.looks q hq;omega
def Av (p:PtrM) (al:Option Addr) (cl:Nat) (plain:Bool) (pick:Int) (X:RunM) (u:World) (e:Ending) (w':World):Prop:=∃p',e=.returned (.agg (aG p' al cl plain pick X))∧RunIn w' p' al cl X∧From u.heap.size p p'∧Bw u w'
theorem DE {p:PtrM} {al:Option Addr} {cl:Nat} {plain:Bool} {pick:Int} {r:RunM} {c t:Int} {u:World} (hu:RunIn u p al cl r):Calls Tryz.prog 67 #[.agg (aG p al cl plain pick r),VI c,VU t] u (Av p al cl plain pick (bI r c t) u):=by
 refine (jE p al cl plain pick r c t u).mono ?_;rintro e w' ⟨rfl,n⟩;exact ⟨p,rfl,xV (hu.keep n) rfl rfl rfl rfl,BI _ _,n⟩
theorem Fq {p:PtrM} {al:Option Addr} {cl:Nat} {plain:Bool} {pick:Int} {r:RunM} {a:Nat} {V:Int} {u:World} (hu:RunIn u p al cl r) (h8:r.h.regs.length=8) (ha:a<8):Calls Tryz.prog 94 #[.agg (aG p al cl plain pick r),VI (a:Nat),VU V] u (Av p al cl plain pick (bW r a V) u):=by
 refine (iX p al cl plain pick r a V u hu (by omega) (by omega) (by omega)).mono ?_;rintro e w' ⟨⟨p',rfl,h1,h2⟩,n⟩;exact ⟨p',rfl,h1,h2,n⟩
theorem exq {R:Ending->World->Prop} {Q:Exit->Act->World->Prop} {f:Func} (h:bodyPost Tryz.prog f R=Q):Hid (∀x (a:Act) d z w,Q (.panic x) (a.put d z) w->Q (.panic x) a w):=by
 show ∀x (a:Act) d z w,Q (.panic x) (a.put d z) w->Q (.panic x) a w;rw [<-h];exact fun _ _ d _ _ h=>by cases d <;> exact h
end
section
attribute [local go_sem ↓] Go.wp_at_zero Go.wp_at_succ
theorem fk (x:EX) (H:ExecH x) (op:Int) (hc:op=1∨op=2∨op=3∨(op=9∨op=10∨op=11)∧x.r.h.mode=0∨(op=12∨op=13)∧x.r.h.mode≠2∨op=13∧x.r.h.mode=2∧2<x.c∨op=14∨op=0∨15<=op∧op<=255):sH op x:=by
 obtain ⟨w,v,hb,a,b,c,p,al,cl,plain,pick,r,P,q,s,word,imm,jump,xa,xb,xc,W,pc⟩:=x;obtain ⟨hE,hok,hreg,hpk,h0,hll,hs,hwd,hpa,hpb,hpc,him,hju,hxa,hxb,hxc,hW,hpcc⟩:=H;intro Q X HX HQ K hK C
 intros
 dsimp only at *;simp only [eg,df,eM,Tryz.f70,Option.getD] at hK |-;have k3:=ab hE.hart 3 (show (ak p r.h)[3]?=some (VI r.h.mode) from rfl);have hbv:=(hpl hE.hart);have HE:=hid hE;have hmo:=hok.h.v.mode;have HT:Hid (∀c t,X=bI (aB r) c t->∀u,RunIn u p al cl (aB r)->Calls Tryz.prog 67 #[.agg (aG p al cl plain pick (aB r)),VI c,VU t] u (Av p al cl plain pick X u)):=fun c t h u hu=>by rw [h];exact DE hu
 have HS:Hid (∀V,X=bW (aB r) a V->∀u,RunIn u p al cl (aB r)->Calls Tryz.prog 94 #[.agg (aG p al cl plain pick (aB r)),VI (a:Nat),VU V] u (Av p al cl plain pick X u)):=fun V h u hu=>by rw [h];exact Fq hu hreg hpa.2
 have HLd:=vw hE.run;replace HX:=HX.out;unfold eT doM at HX;rcases hc with rfl | rfl | rfl | ⟨rfl | rfl | rfl,hm⟩ | ⟨rfl | rfl,hm⟩ | ⟨rfl,hm,hc2⟩ | rfl | rfl | ⟨hb1,hb2⟩;have HC:Hid _:=HS.out imm (by rw [<-HX,if_neg (by simp [bH]),if_pos rfl,him,<-hpa.1];rfl)
 rotate_left
 have HC:Hid _:=HS.out (IntKind.u64.wrap (xb+xc)) (by rw [<-HX,if_neg (by simp [bH]),if_neg (by decide),if_pos rfl,hxb,hxc,<-hpb.1,<-hpc.1,<-hpa.1];rfl)
 rotate_left
 have HC:Hid _:=HS.out (IntKind.u64.wrap (xb+imm)) (by rw [<-HX,if_neg (by simp [bH]),if_neg (by decide),if_neg (by decide),if_pos rfl,hxb,him,<-hpb.1,mG,<-hpa.1];rfl)
 rotate_left
 iterate 3
  have HC:Hid _:=HT.out 2 word (by rw [<-HX,if_pos (by simp [bH,bA,dL,hm])];rfl);rw [hm] at k3
  rotate_left
 iterate 2
  have HC:Hid _:=HT.out 2 word (by rw [<-HX,if_pos (by simp [bH,bA,dL,hm])];rfl);generalize r.h.mode=mo at k3 hm
  rotate_left
 have HC:Hid _:=HT.out 2 word (by rw [<-HX,if_pos (by simp only [bH,bA,dL,hm,hpc.1];simp;omega)];rfl);rw [hm] at k3
 rotate_left
 have HC:Hid _:=HT.out (8+r.h.mode) 0 (by rw [<-HX,if_neg (by simp [bH]),if_neg (by decide),if_neg (by decide),if_neg (by decide),if_neg (by decide),if_neg (by decide),if_neg (by decide),if_neg (by decide),if_neg (by decide),if_neg (by decide),if_neg (by decide),if_neg (by decide),if_neg (by decide),if_neg (by decide),if_pos rfl];rfl);obtain ⟨hm1,hm2⟩:=hmo
 rotate_left
 have HC:Hid _:=HT.out 2 word (by rw [<-HX,if_neg (by simp [bH]),if_neg (by decide),if_neg (by decide),if_neg (by decide),if_neg (by decide),if_neg (by decide),if_neg (by decide),if_neg (by decide),if_neg (by decide),if_neg (by decide),if_neg (by decide),if_neg (by decide),if_neg (by decide),if_neg (by decide),if_neg (by decide)];rfl)
 rotate_left
 have HC:Hid _:=HT.out 2 word (by rw [<-HX,if_neg (by simp only [bH];simp;omega),if_neg (by omega),if_neg (by omega),if_neg (by omega),if_neg (by omega),if_neg (by omega),if_neg (by omega),if_neg (by omega),if_neg (by omega),if_neg (by omega),if_neg (by omega),if_neg (by omega),if_neg (by omega),if_neg (by omega),if_neg (by omega)];rfl)
 rotate_left
 all_goals
  clear HT HS HX hE hok hpa hpb hpc him hju hxa hxb hxc hW hpcc h0 hll hs hwd hpk;generalize aG p al cl plain pick (aB r)=D at HC HLd
 focus go_upto_region 21 with fail
 rotate_left
 focus go_upto_region 23 with fail
 rotate_left
 focus go_upto_region 25 with fail
 rotate_left
 iterate 6
  focus go_upto_region 18 with fail
  rotate_left
 focus go_upto_region 72 with fail
 rotate_left
 focus go_upto_region 73 with fail
 rotate_left
 focus go_upto_region 73 with fail
 rotate_left
 all_goals
  as_aux_lemma=>
   go_wp2_with ((with_reducible refine bj ?_ HLd.out ?_);(exact rfl));refine (HC.out v HE.out.runIn).mono ?_;rintro e v2 ⟨p',rfl,hI2,hF2,n2⟩;obtain ⟨u2,HSr,HR⟩:=lU HE.out hI2 hF2 (sG _ _) n2 HQ.out rfl;generalize aG p' al cl plain pick X=E at HSr |-;go_wp2_with ((with_reducible refine az ?_ ?_ HSr.out ?_);(exact rfl);(exact rfl));exact HR.out _ rfl rfl
end
section
attribute [local go_sem ↓] Go.wp_at_zero Go.wp_at_succ
theorem pZ (x:EX) (H:ExecH x) (op:Int) (hc:op=8∧x.xa=x.xb∨op=8∧x.xa≠x.xb∨op=12∧x.r.h.mode=2∨op=13∧x.r.h.mode=2∧¬2<x.c):sH op x:=by
 obtain ⟨w,v,hb,a,b,c,p,al,cl,plain,pick,r,P,q,s,word,imm,jump,xa,xb,xc,W,pc⟩:=x;obtain ⟨hE,hok,hreg,hpk,h0,hll,hs,hwd,hpa,hpb,hpc,him,hju,hxa,hxb,hxc,hW,hpcc⟩:=H;intro Q X HX HQ K hK C
 intros
 dsimp only at *;simp only [eg,df,eM,Tryz.f70,Option.getD] at hK |-;have k3:=ab hE.hart 3 (show (ak p r.h)[3]?=some (VI r.h.mode) from rfl);have hbv:=(hpl hE.hart);have HE:=hid hE;have hav:=(hpl hE.run);have k8:=ab HE.out.hart 8 (show (ak p r.h)[8]?=some (VU r.h.epc) from rfl);have k9:=ab HE.out.hart 9 (show (ak p r.h)[9]?=some (VI r.h.emode) from rfl);have hne:hb≠w.heap.size:=by have:=HE.out.hb;omega
 rcases hc with ⟨rfl,hm⟩ | ⟨rfl,hm⟩ | ⟨rfl,hm⟩ | ⟨rfl,hm,hc2⟩;have hX:X=aB r:=by
  rw [<-HX.out];unfold eT doM;rw [if_neg (by simp [bH])]
  iterate 7 rw [if_neg (by decide)]
  rw [if_pos rfl,if_pos (by rw [hpa.1,hpb.1];rw [hxa,hxb] at hm;exact hm)];rfl
 obtain ⟨v2,e2,HF⟩:∃v2,v=v2∧Hid (FSq w p al cl r _ v2):=⟨_,rfl,(FSq.of HE.out)⟩;have F2:=HF.out.fin HQ.out (by rw [hX] <;> rfl) (by rw [hX] <;> rfl) (by rw [hX] <;> rfl) (by rw [hX] <;> rfl) (by rw [hX] <;> rfl);clear hX
 rotate_left
 have hX:X=bA (aB r) (dL (aB r).h (IntKind.u64.wrap (pc+jump))):=by
  rw [<-HX.out];unfold eT doM;rw [if_neg (by simp [bH])]
  iterate 7 rw [if_neg (by decide)]
  rw [if_pos rfl,if_neg (by rw [hpa.1,hpb.1];rw [hxa,hxb] at hm;exact hm),hju,mG,hpcc];rfl
 obtain ⟨v2,e2,HF⟩:∃v2,(v.setCell (AD w.heap.size 2) (VU (IntKind.u64.wrap (pc+jump))))=v2∧Hid (FSq w p al cl r _ v2):=⟨_,rfl,((FSq.of HE.out).set 2 (VU (IntKind.u64.wrap (pc+jump))))⟩;have F2:=HF.out.fin HQ.out (by rw [hX] <;> rfl) (by rw [hX] <;> rfl) (by rw [hX] <;> rfl) (by rw [hX] <;> rfl) (by rw [hX] <;> rfl);clear hX;have c2:=ab HE.out.run 2 (show (aG p al cl plain pick (aB r))[2]?=some _ from rfl);have f2:=ap HE.out.run 2
 rotate_left
 have hX:X=bA (aB r) ⟨r.h.mem,r.h.regs,IntKind.u64.wrap (r.h.epc+jump),r.h.emode,r.h.sum,r.h.mxr,r.h.satp,r.h.tvec,r.h.epc,r.h.emode,r.h.cause,r.h.tval,r.h.k⟩:=by
  rw [<-HX.out];unfold eT doM;rw [if_neg (by simp [bH,bA,dL,hm])]
  iterate 11 rw [if_neg (by decide)]
  rw [if_pos rfl,hju,mG];rfl
 rw [hm] at k3;obtain ⟨v2,e2,HF⟩:∃v2,((v.setCell (AD w.heap.size 2) (VU (IntKind.u64.wrap (r.h.epc+jump)))).setCell (AD w.heap.size 3) (VI r.h.emode))=v2∧Hid (FSq w p al cl r _ v2):=⟨_,rfl,(((FSq.of HE.out).set 2 (VU (IntKind.u64.wrap (r.h.epc+jump)))).set 3 (VI r.h.emode))⟩;have F2:=HF.out.fin HQ.out (by rw [hX] <;> rfl) (by rw [hX] <;> rfl) (by rw [hX] <;> rfl) (by rw [hX] <;> rfl) (by rw [hX] <;> rfl);clear hX;have c2:=ab HE.out.run 2 (show (aG p al cl plain pick (aB r))[2]?=some _ from rfl);have f2:=ap HE.out.run 2;have c3:=ab HE.out.run 3 (show (aG p al cl plain pick (aB r))[3]?=some _ from rfl);have f3:=ap HE.out.run 3
 rotate_left
 have hX:X=bA (aB r) ⟨r.h.mem,r.h.regs,(aB r).h.pc,r.h.mode,r.h.sum,r.h.mxr,r.h.satp,r.h.tvec,xa,(c:Int),r.h.cause,r.h.tval,r.h.k⟩:=by
  rw [<-HX.out];unfold eT doM;rw [if_neg (by simp only [bH,bA,dL,hm,hpc.1];simp;omega)]
  iterate 12 rw [if_neg (by decide)]
  rw [if_pos rfl,hpc.1,hpa.1,hxa];rfl
 rw [hm] at k3;obtain ⟨v2,e2,HF⟩:∃v2,((v.setCell (AD w.heap.size 8) (VU xa)).setCell (AD w.heap.size 9) (VI (c:Nat)))=v2∧Hid (FSq w p al cl r _ v2):=⟨_,rfl,(((FSq.of HE.out).set 8 (VU xa)).set 9 (VI (c:Nat)))⟩;have F2:=HF.out.fin HQ.out (by rw [hX] <;> rfl) (by rw [hX] <;> rfl) (by rw [hX] <;> rfl) (by rw [hX] <;> rfl) (by rw [hX] <;> rfl);clear hX;have c8:=ab HE.out.run 8 (show (aG p al cl plain pick (aB r))[8]?=some _ from rfl);have f8:=ap HE.out.run 8;have c9:=ab HE.out.run 9 (show (aG p al cl plain pick (aB r))[9]?=some _ from rfl);have f9:=ap HE.out.run 9
 rotate_left
 all_goals
  obtain ⟨E,u2,HLd,HSr,HR⟩:=F2;clear HF HX hE hok hpa hpb hpc him hju hxa hxb hxc hW hpcc h0 hll hs hwd hpk
 iterate 2
  focus go_upto_region 48 with fail
  rotate_left
 focus go_upto_region 66 with fail
 rotate_left
 focus go_upto_region 70 with fail
 rotate_left
 all_goals
  try rw [e2]
  go_wp2_with (first
   | ((with_reducible refine bj ?_ HLd.out ?_);(exact rfl))
   | ((with_reducible refine az ?_ ?_ HSr.out ?_);(exact rfl);(exact rfl)))
  exact HR.out _ rfl rfl
end
section
attribute [local go_sem ↓] Go.wp_at_zero Go.wp_at_succ
theorem Ce (x:EX) (H:ExecH x) (hmo:x.r.h.mode≠0):sH 9 x:=by
 obtain ⟨w,v,hb,a,b,c,p,al,cl,plain,pick,r,P,q,s,word,imm,jump,xa,xb,xc,W,pc⟩:=x;obtain ⟨hE,hok,hreg,hpk,h0,hll,hs,hwd,hpa,hpb,hpc,him,hju,hxa,hxb,hxc,hW,hpcc⟩:=H;intro Q X HX HQ K hK C
 intros
 dsimp only at *;simp only [eg,df,eM,Tryz.f70,Option.getD] at hK |-;have k3:=ab hE.hart 3 (show (ak p r.h)[3]?=some (VI r.h.mode) from rfl);have hbv:=(hpl hE.hart);have HE:=hid hE;have HXu:inU xa:=by rw [hxa];exact hok.h.regs _
 have HX2:Hid (X=if de xa=true then bA (aB r) ⟨r.h.mem,r.h.regs,(aB r).h.pc,r.h.mode,r.h.sum,r.h.mxr,xa,r.h.tvec,r.h.epc,r.h.emode,r.h.cause,r.h.tval,r.h.k⟩ else aB r):=by
  show _=_;rw [<-HX.out];unfold eT doM;rw [if_neg (by simp [bH,bA,dL,hmo])]
  iterate 8 rw [if_neg (by decide)]
  rw [if_pos rfl,hpa.1,hxa];rfl
 generalize r.h.mode=mo at k3 hmo;clear HX hE hok hpa hpb hpc him hju hxa hxb hxc hW hpcc h0 hll hs hwd hpk;go_upto_region 50 with fail;go_wp2_with fail;refine (pw xa v HXu.1 HXu.2).mono ?_;rintro e v1 ⟨rfl,nS⟩;have HE2:=hid (HE.out.keep nS);clear k3 hbv nS HE;have hav:=(hpl HE2.out.run);have c6:=ab HE2.out.run 6 (show (aG p al cl plain pick (aB r))[6]?=some _ from rfl);have f6:=ap HE2.out.run 6;have hX:=HX2.out;clear HX2;cases hsc:de xa;rw [hsc,if_neg (by decide)] at hX;obtain ⟨v2,e2,HF⟩:∃v2,v1=v2∧Hid (FSq w p al cl r _ v2):=⟨_,rfl,(FSq.of HE2.out)⟩
 rotate_left
 rw [hsc,if_pos rfl] at hX;obtain ⟨v2,e2,HF⟩:∃v2,v1.setCell (AD w.heap.size 6) (VU xa)=v2∧Hid (FSq w p al cl r _ v2):=⟨_,rfl,(FSq.of HE2.out).set 6 (VU xa)⟩
 rotate_left
 all_goals
  obtain ⟨E,u2,HLd,HSr,HR⟩:=HF.out.fin HQ.out (by rw [hX] <;> rfl) (by rw [hX] <;> rfl) (by rw [hX] <;> rfl) (by rw [hX] <;> rfl) (by rw [hX] <;> rfl);clear hX HF;go_upto_region 52 with fail;try rw [e2]
  go_wp2_with (first
   | ((with_reducible refine bj ?_ HLd.out ?_);(exact rfl))
   | ((with_reducible refine az ?_ ?_ HSr.out ?_);(exact rfl);(exact rfl)))
  exact HR.out _ rfl rfl
end
section
attribute [local go_sem ↓] Go.wp_at_zero Go.wp_at_succ
theorem Eo (x:EX) (H:ExecH x):sH 4 x:=by
 obtain ⟨w,v,hb,a,b,c,p,al,cl,plain,pick,r,P,q,s,word,imm,jump,xa,xb,xc,W,pc⟩:=x;obtain ⟨hE,hok,hreg,hpk,h0,hll,hs,hwd,hpa,hpb,hpc,him,hju,hxa,hxb,hxc,hW,hpcc⟩:=H;intro Q X HX0 HQ K hK C
 intros
 dsimp only at *;simp only [eg,df,eM,Tryz.f70,Option.getD] at hK |-;have HE:=hid hE;have HQp:=exq HQ.out;have HX:Hid (eT plain pick r 4 P q s word=(bW (aB r) (a:Int) (IntKind.u64.wrap (xb*iO (s%64))))):=by
  show _=_;unfold eT doM;rw [if_neg (by simp [bH]),if_neg (by decide),if_neg (by decide),if_neg (by decide),if_pos rfl,hxb,<-hpb.1,<-hpa.1];rfl
 have hX:=HX0.out;have HX':Hid (X=(bW (aB r) (a:Int) (IntKind.u64.wrap (xb*iO (s%64))))):=by show _=_;rw [<-hX];exact HX.out
 clear HX0;have ha8:=hpa.2;obtain ⟨hs1,hs2⟩:=hs;have HTm:Hid (s.tmod 64=s%64):=Int.tmod_eq_emod_of_nonneg hs1;clear hX HX hE hok hpa hpb hpc him hju hxa hxb hxc hW hpcc h0 hll;have HSR:=hid fun u (hu:RunIn u p al cl (aB r))=>iX p al cl plain pick (aB r) a (IntKind.u64.wrap (xb*iO (s%64))) u hu (by omega) (by show (a:Int).toNat<r.h.regs.length;omega) (by show r.h.regs.length<=_;omega);have hRs:=bP p al cl plain pick (aB r);have HLr:=hid fun (u:World) (hu:u.heap[w.heap.size]?=some (.cells (aG p al cl plain pick (aB r)) 54 (0,0)))=>aW (P:=Tryz.prog) (T:=54) hu Tryz.underlying54 rfl (by rw [hRs];exact dq);have HRv:=hid HE.out.run;generalize aG p al cl plain pick (aB r)=D at HSR hRs HLr HRv;go_upto_region 27 with fail;have hF:=HRv.out;refine ax (fun u=>u.heap[w.heap.size]?=some (.cells D 54 (0,0))) 8 ?_;refine aj 0 141 (.agg D) rfl hF ?_ (hQ:=hqp HQp) (hy:=fun u hu=>aD rfl (HLr.out u hu));refine aj 1 142 (VI (a:Nat)) rfl hF ?_ (hQ:=hqp HQp);refine aj 2 143 (VU xb) rfl hF ?_ (hQ:=hqp HQp);refine aj 3 144 (VI s) rfl hF ?_ (hQ:=hqp HQp)
 go_frame
 refine aj 4 145 (VI (s%64)) rfl hF ?_ (hQ:=hqp HQp) (hy:=fun u hu=>(by have h1:=HTm.out;go_simp))
 go_frame
 refine du 5 146 rfl (f:=62) (args:=#[VI (s%64)]) ?_;refine (cO (s%64) (iO (s%64)) v.drew (by omega) rfl).mono ?_;rintro e v1 ⟨rfl,rfl⟩;refine ⟨_,rfl,fun _=>hF,?_⟩
 go_frame
 refine aj 6 147 (VU (IntKind.u64.wrap (xb*iO (s%64)))) rfl hF ?_ (hQ:=hqp HQp)
 go_frame
 refine du 7 148 rfl (f:=94) (args:=#[.agg D,VI (a:Nat),VU (IntKind.u64.wrap (xb*iO (s%64)))]) ?_;refine (HSR.out v.drew (HE.out.runIn.keep ((brf).drew))).mono ?_;rintro e v2 ⟨⟨p',rfl,hI2,hF2⟩,n2'⟩;have n2:Bw v v2:=bst ((brf).drew) n2';refine ⟨_,rfl,fun _=>ae HRv.out n2 (hpl HRv.out),?_⟩
 go_frame
 obtain ⟨u2,HSr,HR⟩:=lU HE.out hI2 hF2 (sG _ _) n2 HQ.out HX'.out;generalize aG p' al cl plain pick (bW (aB r) (a:Int) (IntKind.u64.wrap (xb*iO (s%64))))=E at HSr |-;refine dz 8 12 148 rfl HSr.out ?_;refine dc ?_;go_wp2_with fail;exact HR.out _ rfl rfl
end
section
attribute [local go_sem ↓] Go.wp_at_zero Go.wp_at_succ
theorem nl {B C:Nat} {p p1 p2:PtrM} (h:From B p p1) (k:From C p1 p2) (hc:B<=C):From B p p2:=fun q hq=>by
 rcases k q hq with h1 | h1
 ·exact h q h1
 ·exact .inr (Nat.le_trans hc h1)
theorem wn {B B2 mb mo b2 o2 cp2:Nat} {p p':PtrM} (h:From B p p') (ha:p'.am=some (AD mb mo)) (ho:(b2=mb∧o2=mo)∨B2<=b2) (hB:B<=B2):From B p ⟨some (AD b2 o2),cp2,p'.ar,p'.cr,p'.a1,p'.c1,p'.a2,p'.c2,p'.a3,p'.c3⟩:=by
 intro q hq;simp only [be,List.mem_cons,Option.some.injEq] at hq;rcases hq with rfl | hq
 ·rcases ho with ⟨rfl,rfl⟩ | ho
  ·exact h _ (by rw [<-ha];simp [be])
  ·exact .inr (Nat.le_trans hB ho)
 ·exact h q (by simp only [be,List.mem_cons];exact .inr hq)
theorem wo {p:PtrM} {al:Option Addr} {cl:Nat} {plain:Bool} {pick:Int} {r:RunM} {m:List Int} {a:Option Addr} {c:Nat} (hl:m.length=r.h.mem.length):aG ⟨a,c,p.ar,p.cr,p.a1,p.c1,p.a2,p.c2,p.a3,p.c3⟩ al cl plain pick (bA r (dV r.h m))=(aG p al cl plain pick r).setIfInBounds 0 (.slice a r.h.mem.length c):=by
 rw [<-hl];rfl
theorem tT {w w':World} {p:PtrM} {al:Option Addr} {cl:Nat} {r:RunM} {m:List Int} {b o cp vb:Nat} (h:RunIn w p al cl r) (hg:w.grownBy w' (some vb)) (hne:∀q,some q∈be p->q.block≠vb) (hnl:∀q,al=some q->q.block≠vb) (hm:Byt w' (some (AD b o)) r.h.mem.length m) (hl:m.length=r.h.mem.length) (hc:r.h.mem.length<=cp∧cp<=9223372036854775807) (hb:b<w'.heap.size):
 RunIn w' ⟨some (AD b o),cp,p.ar,p.cr,p.a1,p.c1,p.a2,p.c2,p.a3,p.c3⟩ al cl (bA r (dV r.h m)):=by
 have k:=h.gb hg hne hnl;rw [<-hl] at hm hc;refine ⟨⟨hm,hc,k.h.regs,k.h.regc,k.h.rega,k.h.ks,?_⟩,k.looks,k.lookc,k.looka,k.lookl,k.low⟩;intro q hq;simp only [be,List.mem_cons,Option.some.injEq] at hq;rcases hq with rfl | hq
 ·exact hb
 ·exact k.h.low q (by simp only [be,List.mem_cons];exact .inr hq)
theorem yT (x:EX) (H:ExecH x) (hcc:PlC x.plain):sH 5 x:=by
 obtain ⟨w,v,hb,a,b,c,p,al,cl,plain,pick,r,P,q,s,word,imm,jump,xa,xb,xc,W,pc⟩:=x;obtain ⟨hE,hok,hreg,hpk,h0,hll,hs,hwd,hpa,hpb,hpc,him,hju,hxa,hxb,hxc,hW,hpcc⟩:=H;intro Q X HX0 HQ K hK C
 intros
 dsimp only at *;simp only [eg,df,eM,Tryz.f70,Option.getD] at hK |-;have HE:Hid (ExecIn w v hb p al cl plain pick r):=hE;have HQp:=exq HQ.out;have hok':ROk (aB r):=pJ hok;have hWb:1<=W∧W<=8:=by rw [hW];exact kE _ (by omega)
 have hEb:inU (IntKind.u64.wrap (xb+imm)):=fe (xb+imm);have HPt:Hid (∀u,RunIn u p al cl (aB r)->Calls Tryz.prog 95 #[.agg (aG p al cl plain pick (aB r)),VI 1,VU (IntKind.u64.wrap (xb+imm)),VI W] u fun e w'=>(∃p' al' cl' ga n c,e=.returned (.tuple #[.agg (aG p' al' cl' plain pick (aw plain pick (aB r) 1 (IntKind.u64.wrap (xb+imm)) W).1),.slice ga n c])∧RunIn w' p' al' cl' (aw plain pick (aB r) 1 (IntKind.u64.wrap (xb+imm)) W).1∧From u.heap.size p p'∧FromL u.heap.size al al'∧((aw plain pick (aB r) 1 (IntKind.u64.wrap (xb+imm)) W).1.cause=0->n=(aw plain pick (aB r) 1 (IntKind.u64.wrap (xb+imm)) W).2.length∧n<=2∧∃g,ga=some (AD g 0)∧RowC w' ga n 3 (dx (aw plain pick (aB r) 1 (IntKind.u64.wrap (xb+imm)) W).2)))∧Bw u w'):=fun u hu=>lG plain hcc p al cl pick (aB r) 1 (IntKind.u64.wrap (xb+imm)) W u hu hok' h0 hpk (by omega) hEb (by omega) hll;have HX:Hid (eT plain pick r 5 P q s word=if (aw plain pick (aB r) 1 (IntKind.u64.wrap (xb+imm)) W).1.cause=0 then bW (aw plain pick (aB r) 1 (IntKind.u64.wrap (xb+imm)) W).1 (a:Int) (iS (aw plain pick (aB r) 1 (IntKind.u64.wrap (xb+imm)) W).1.h.mem (aw plain pick (aB r) 1 (IntKind.u64.wrap (xb+imm)) W).2) else (aw plain pick (aB r) 1 (IntKind.u64.wrap (xb+imm)) W).1):=by
  show _=_;unfold eT doM;rw [if_neg (by simp [bH])]
  iterate 4 rw [if_neg (by decide)]
  rw [if_pos rfl];rw [hpa.1,hpb.1,hpc.1,<-hW,him,mG,hxb];rfl
 have HYk:Hid _:=ic plain (kind:=1) (w:=W) hpk (by omega) hEb (by omega) hok';have HYl:Hid _:=kc plain pick 1 (IntKind.u64.wrap (xb+imm)) W (aB r);have HYi:Hid ((aw plain pick (aB r) 1 (IntKind.u64.wrap (xb+imm)) W).1.cause=0->∀p∈(aw plain pick (aB r) 1 (IntKind.u64.wrap (xb+imm)) W).2,fD (aw plain pick (aB r) 1 (IntKind.u64.wrap (xb+imm)) W).1.h.mem.length p.2.2 p.2.1=true):=ka;have hX:=HX0.out;rw [hX] at HX;clear HX0;generalize aw plain pick (aB r) 1 (IntKind.u64.wrap (xb+imm)) W=Y at HPt HX HYk HYl HYi;have ha8:=hpa.2;obtain ⟨hWb1,hWb8⟩:=hWb;clear hX hE hok hok' hEb hpa hpb hpc him hju hxa hxb hxc hW hpcc h0 hll;have hRs:=bP p al cl plain pick (aB r);have HLr:Hid (∀u:World,u.heap[w.heap.size]?=some (.cells (aG p al cl plain pick (aB r)) 54 (0,0))->(Instr.loadAt 54 (PT w.heap.size 0)).run Tryz.prog u=.ok (.agg (aG p al cl plain pick (aB r))) u):=fun u hu=>aW (P:=Tryz.prog) (T:=54) hu Tryz.underlying54 rfl (by rw [hRs];exact dq);have HRv:Hid (v.heap[w.heap.size]?=some (.cells (aG p al cl plain pick (aB r)) 54 (0,0))):=HE.out.run;generalize aG p al cl plain pick (aB r)=D at HPt hRs HLr HRv;have HLd:Hid _:=HLr.out v HRv.out;clear HLr;go_upto_region 29 with fail;go_wp2_with ((with_reducible refine bj ?_ HLd.out ?_);(exact rfl));refine (HPt.out v HE.out.runIn).mono ?_;rintro e v1 ⟨⟨p',al',cl',ga,n,cp,rfl,hI,hF0,hL0,hC⟩,n1⟩;clear HPt HLd HRv hRs;have HC:Hid _:=hC;have HF:Hid _:=hF0;have HL:Hid _:=hL0;have hR1:=bP p' al' cl' plain pick Y.1;have HR1o:Hid _:=dM p' al' cl' plain pick Y.1;obtain ⟨E,hEE⟩:∃E,aG p' al' cl' plain pick Y.1=E:=⟨_,rfl⟩;have HEE:Hid (aG p' al' cl' plain pick Y.1=E):=hEE;rw [hEE] at hR1 HR1o |-;clear hEE hC hF0 hL0;have a1:=bF v1 eS 54;have HSt:Hid _:=aR (P:=Tryz.prog) (T:=54) (V:=E) a1.1 (by rw [hR1];exact dq) (by rw [hR1,aS]) HR1o.out;have HT:Hid _:=aI (V:=E) a1.1 (by rw [hR1,aS]);have n2:=aK (Nat.le_refl v1.heap.size) E.toList 0 _ a1.2.2;have s2:v1.heap.size<((v1.alloc (Obj.cells eS 54)).setCells v1.heap.size 0 E.toList).heap.size:=by rw [cF];have:=a1.2.1;omega
 clear a1;go_upto_region 30 with ((with_reducible refine az ?_ ?_ HSt.out ?_);(exact rfl);(exact rfl));generalize (v1.alloc (Obj.cells eS 54)).setCells v1.heap.size 0 E.toList=vT at HT n2 s2 |-;clear HSt;have nT:=bst n1 n2;have HIT:Hid (RunIn vT p' al' cl' Y.1):=hI.keep n2;have HK6:Hid _:=ae HE.out.res nT (hpl HE.out.res);have hv1:v.heap.size<=v1.heap.size:=n1.size;have hwv:w.heap.size+1<v.heap.size:=(hpl HE.out.res);have HLo:Hid ((∀q,some q∈be p'->q.block<v1.heap.size)∧∀q,al'=some q->q.block<v1.heap.size):=⟨hI.h.low,hI.low⟩;generalize hvb:v1.heap.size=vb at HT s2 hv1 HLo |-;have c23:E[23]?=some (VI Y.1.cause):=by rw [<-HEE.out];rfl
 have k23:=ab HT.out 23 c23;have HCv:Hid (Y.1.cause=0->n=Y.2.length∧n<=2∧∃g,ga=some (AD g 0)∧RowC vT ga n 3 (dx Y.2)):=fun h=>by
  obtain ⟨h1,h2,g,h3,h4⟩:=HC.out h;exact ⟨h1,h2,g,h3,h4.keep n2⟩
 clear HC hI n1 n2 hvb c23;have HLt:Hid (∀u:World,u.heap[vb]?=some (.cells E 54 (0,0))->(Instr.loadAt 54 (PT vb 0)).run Tryz.prog u=.ok (.agg E) u):=fun u hu=>aW (P:=Tryz.prog) (T:=54) hu Tryz.underlying54 rfl (by rw [hR1];exact dq);by_cases h0:¬Y.1.cause=0
 ·have HXe:Hid (X=Y.1):=by show _=_;rw [HX.out,if_neg h0]
  obtain ⟨u2,HSr,HR⟩:=lU HE.out HIT.out HF.out HL.out nT HQ.out HXe.out;rw [HEE.out] at HSr;have HLd:Hid _:=HLt.out vT HT.out;generalize Y.1.cause=cs at k23 h0;go_upto_region 31 with fail;go_wp2_with (first
   | ((with_reducible refine bj ?_ HLd.out ?_);(exact rfl))
   | ((with_reducible refine az ?_ ?_ HSr.out ?_);(exact rfl);(exact rfl)))
  exact HR.out _ rfl rfl
 ·replace h0:Y.1.cause=0:=Decidable.not_not.1 h0;have HXe:Hid (X=bW Y.1 (a:Int) (iS Y.1.h.mem Y.2)):=by show _=_;rw [HX.out,if_pos h0]
  obtain ⟨hn,hn2,g,rfl,hrow⟩:=HCv.out h0;have HRow:Hid _:=hrow;obtain ⟨mb,mo,ham,hmlt,hmcell⟩:∃b off,p'.am=some (AD b off)∧b<vT.heap.size∧∀i,i<Y.1.h.mem.length->vT.cell? ⟨b,off+i,none⟩=some (.int .u8 (Y.1.h.mem[i]?.getD 0)):=by
   rcases HIT.out.h.mem.2.2 with h | h
   ·have:=iy HYk.out.1.h.v.size;omega
   ·exact h
  have HB:Hid (Byt vT (some (AD mb mo)) Y.1.h.mem.length Y.1.h.mem):=by
   have:=HIT.out.h.mem;rw [ham] at this;exact this
  have hml:Y.1.h.mem.length<=4096:=(iy HYk.out.1.h.v.size).2.2;obtain ⟨hmc1,hmc2⟩:=HIT.out.h.memc;have c0:E[0]?=some (.slice (some (AD mb mo)) Y.1.h.mem.length p'.cm):=by rw [<-HEE.out];show some (Value.slice p'.am _ _)=_;rw [ham]
  have k0:=ab HT.out 0 c0;have HLm:Hid (∀u:World,u.heap[vb]?=some (.cells E 54 (0,0))->(Instr.loadAt 22 (PT vb 0)).run Tryz.prog u=.ok (.slice (some (AD mb mo)) Y.1.h.mem.length p'.cm) u):=fun u hu=>by
   have h1:=ab hu 0 c0;go_simp
  have HIi:Hid _:=HYi.out h0;clear hrow ham hmlt hmcell c0 hn;generalize hmL:Y.1.h.mem.length=ml at *;have HmL:Hid (Y.1.h.mem.length=ml):=hmL;clear hmL;rw [h0] at k23;have HGet:Hid (∀u,Bw vT u->Calls Tryz.prog 96 #[.slice (some (AD mb mo)) ml p'.cm,SL g n cp] u fun e w'=>e=.returned (VU (iS Y.1.h.mem Y.2))∧Bw u w'):=fun u hu=>tR mb mo ml p'.cm g n cp Y.1.h.mem Y.2 u (HB.out.keep hu) (by omega) hmc1 hmc2 (RowC.keep HRow.out hu) (HCv.out h0).1.symm hn2 HYk.out.2 HIi.out (by rw [HYl.out];omega);have hr8:Y.1.h.regs.length=8:=HYk.out.1.h.v.regs;have HSR:Hid (∀u,RunIn u p' al' cl' Y.1->Calls Tryz.prog 94 #[.agg (aG p' al' cl' plain pick Y.1),VI (a:Nat),VU (iS Y.1.h.mem Y.2)] u fun e w'=>(∃p2,e=.returned (.agg (aG p2 al' cl' plain pick (bW Y.1 a (iS Y.1.h.mem Y.2))))∧RunIn w' p2 al' cl' (bW Y.1 a (iS Y.1.h.mem Y.2))∧From u.heap.size p' p2)∧Bw u w'):=fun u hu=>iX p' al' cl' plain pick Y.1 a (iS Y.1.h.mem Y.2) u hu (by omega) (by rw [hr8];omega) (by rw [hr8];omega);rw [HEE.out] at HSR;have hF:vT.drew.heap[vb]?=some (.cells E 54 (0,0)):=HT.out;go_upto_region 32 with fail;clear k23 k0;refine ax (fun u=>u.heap[vb]?=some (.cells E 54 (0,0))) 8 ?_;refine aj 0 164 (.agg E) rfl hF ?_ (hQ:=hqp HQp) (hy:=fun u hu=>aD rfl (HLt.out u hu));refine aj 1 165 (VI (a:Nat)) rfl hF ?_ (hQ:=hqp HQp);refine aj 2 166 (PT vb 0) rfl hF ?_ (hQ:=hqp HQp);refine aj 3 167 (PT vb 0) rfl hF ?_ (hQ:=hqp HQp)
  go_frame
  refine aj 4 168 (.slice (some (AD mb mo)) ml p'.cm) rfl hF ?_ (hQ:=hqp HQp) (hy:=fun u hu=>aD rfl (HLm.out u hu));refine aj 5 169 (SL g n cp) rfl hF ?_ (hQ:=hqp HQp)
  go_frame
  refine du 6 170 rfl (f:=96) (args:=#[.slice (some (AD mb mo)) ml p'.cm,SL g n cp]) ?_;refine (HGet.out vT.drew ((brf).drew)).mono ?_;rintro e v2 ⟨rfl,n2'⟩;have n2:Bw vT v2:=bst ((brf).drew) n2';refine ⟨_,rfl,fun _=>ae HT.out n2 s2,?_⟩
  go_frame
  refine du 7 171 rfl (f:=94) (args:=#[.agg E,VI (a:Nat),VU (iS Y.1.h.mem Y.2)]) ?_;refine (HSR.out v2 (HIT.out.keep n2)).mono ?_;rintro e v3 ⟨⟨p2,rfl,hI3,hF3⟩,n3'⟩;have n3:Bw vT v3:=bst n2 n3';have nV:Bw v v3:=bst nT n3;refine ⟨_,rfl,fun _=>ae HT.out n3 s2,?_⟩
  go_frame
  have hF4:From v.heap.size p p2:=nl HF.out hF3 (by have:=nT.size;have:=n2.size;omega);obtain ⟨u2,HSr,HR⟩:=lU HE.out hI3 hF4 HL.out nV HQ.out HXe.out;generalize aG p2 al' cl' plain pick (bW Y.1 (a:Int) (iS Y.1.h.mem Y.2))=E2 at HSr |-;refine dz 8 12 171 rfl HSr.out ?_;refine dc ?_;go_wp2_with fail;exact HR.out _ rfl rfl
end
end Go.Proofs.YthdgiakgepmabaaGreat
