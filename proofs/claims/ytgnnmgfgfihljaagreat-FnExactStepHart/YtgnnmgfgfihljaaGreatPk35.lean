import Derived.Test.YtgnnmgfgfihljaaGreatPk34
namespace Go.Proofs.YtgnnmgfgfihljaaGreat
open Go.RowKit
set_option linter.unusedVariables false
set_option maxHeartbeats 6400000
set_option maxRecDepth 20000
section
attribute [local go_sem ↓] Go.wp_at_zero Go.wp_at_succ
def ek:Nat->Code->Code
 | 0,c=>c
 | n+1,.seq _ c=>ek n c
 | _+1,c=>c
def eS:Code->Code
 | .seq c _=>c
 | c=>c
def gH (f:Func):Code:=f.body.getD .skip
def ao (r:RunM):RunM:=bH r (dV r.h ((r.h.pc+4)%18446744073709551616))
structure ExecIn (w v:World) (hb:Nat) (p:PtrM) (al:Option Addr) (cl:Nat) (plain:Bool) (pick:Int) (r:RunM):Prop where
 run:v.heap[w.heap.size]?=some (.cells (aF p al cl plain pick (ao r)) 66 (0,0))
 res:v.heap[w.heap.size+1]?=some (.cells dm 66 (0,0))
 hart:v.heap[hb]?=some (.cells (ah p r.h) 39 (0,0))
 hb:w.heap.size+1<hb
 runIn:RunIn v p al cl (ao r)
 below:Below w.heap.size w v
 ptrs:∀q,some q∈aV p->q.block<w.heap.size
 looks:∀q,al=some q->q.block<w.heap.size
def ze (op:Int) (w v:World) (hb a b c:Nat) (P q s word imm jump xa xb xc W pc:Int) (Q:Exit->Act->World->Prop):Prop:=
 ∀K:Act->World->Prop,(∀a w,(ek 15 (gH Tryz.f88)).wp Tryz.prog Q a w->K a w)->∀(C:Array Value) (u32 u33 u34 u35 u36 u37 u38 u39 u40 u41 u42 u43 u44 u45 u46 u47 u48 u49 u50 u51 u52 u53 u54 u55 u56 u57 u58 u59 u60 u61 u62 u63 u64 u65 u66 u67 u68 u69 u70 u71 u72 u73 u74 u75 u76 u77 u78 u79:Value),(eS (ek 14 (gH Tryz.f88))).wp Tryz.prog (Exit.then K Q) ⟨#[.agg C,.int .i64 op,.int .i64 P,.int .i64 q,.int .i64 s,.int .u64 word,.pointer (some ⟨w.heap.size,0,none⟩),undef,undef,undef,undef,undef,.pointer (some ⟨w.heap.size+1,0,none⟩),.pointer (some ⟨hb,0,none⟩),.int .i64 (a:Nat),.int .i64 (b:Nat),.int .i64 (c:Nat),.int .u64 imm,.int .u64 jump,.int .u64 xa,.int .u64 xb,.int .u64 xc,.int .i64 W,.int .u64 pc,undef,undef,undef,undef,undef,undef,undef,undef,u32,u33,u34,u35,u36,u37,u38,u39,u40,u41,u42,u43,u44,u45,u46,u47,u48,u49,u50,u51,u52,u53,u54,u55,u56,u57,u58,u59,u60,u61,u62,u63,u64,u65,u66,u67,u68,u69,u70,u71,u72,u73,u74,u75,u76,u77,u78,u79,undef,undef,undef,undef,undef,undef,undef,undef,undef,undef,undef,undef,undef,undef,undef,undef,undef,undef,undef,undef,undef,undef,undef,undef,undef,undef,undef,undef,undef,undef,undef,undef,undef,undef,undef,undef,undef,undef,undef,undef,undef,undef,undef,undef,undef,undef,undef,undef,undef,undef,undef,undef,undef,undef,undef,undef,undef,undef,undef,undef,undef,undef,undef,undef,undef,undef,undef,undef,undef,undef,undef,undef,undef,undef,undef,undef,undef,undef,undef,undef,undef,undef,undef,undef,undef,undef,undef,undef,undef,undef,undef,undef,undef,undef,undef,undef,undef,undef,undef,undef,undef,undef,undef,undef,undef,undef,undef,undef,undef,undef,undef,undef,undef,undef,undef,undef,undef,undef,undef,undef,undef,undef,undef,undef,undef,undef,undef,undef,undef,undef,undef,undef,undef,undef,undef,undef,undef,undef,undef,undef,undef,undef,undef,undef,undef,undef,undef,undef,undef,undef,undef,undef,undef,undef,undef,undef,undef,undef,undef,undef,undef,undef,undef,undef,undef,undef,undef,undef,undef,undef,undef,undef,undef,undef,undef,undef,undef,undef,undef,undef,undef,undef,undef,undef,undef,undef,undef,undef,undef,undef,undef,undef,undef,undef,undef,undef,undef,undef,undef,undef,undef,undef,undef,undef,undef,undef,undef,undef,undef,undef,undef,undef,undef,undef,undef,undef,undef,undef,undef,undef,undef,undef,undef,undef,undef,undef,undef,undef,undef,undef,undef,undef,undef,undef,undef,undef,undef,undef,undef,undef,undef,undef,undef,undef,undef,undef,undef,undef],[]⟩ v
theorem sP (p:PtrM) (al:Option Addr) (cl:Nat) (plain:Bool) (pick:Int) (r:RunM) (op P q s word:Int) (w:World) (hr:RunIn w p al cl r) (hk:ROk r) (hreg:r.h.regs.length=8)
 (hop:0<=op∧op<=255) (hp:0<=P∧P<=255) (hq:0<=q∧q<=255) (hs:0<=s∧s<=255) (R:Ending->World->Prop)
 (H:∀(v:World) (hb a b c:Nat) (imm jump xa xb xc W pc:Int),ExecIn w v hb p al cl plain pick r->P%8=a∧a<8->P/8%8=b∧b<8->q%8=c∧c<8->imm=fW s%18446744073709551616->jump=4*fW s%18446744073709551616->xa=fo r.h a->xb=fo r.h b->xc=fo r.h c->W=fT ((c:Int)%4)->pc=r.h.pc->ze op w v hb a b c P q s word imm jump xa xb xc W pc (bodyPost Tryz.prog Tryz.f88 R)):
  Calls Tryz.prog 88 #[.agg (aF p al cl plain pick r),.int .i64 op,.int .i64 P,.int .i64 q,.int .i64 s,.int .u64 word] w R:=by
 have HH:Hid _:=H;clear H;have HX:Hid (∀(C:Array Value),aF p al cl plain pick r=C->aF p al cl plain pick (ao r)=C.setIfInBounds 2 (.int .u64 ((r.h.pc+4)%18446744073709551616))):=fun C h=>by rw [<-h];rfl
 have HI:=hid hr;have HOK:=hid hk;have hsz:=bh p al cl plain pick r;have HHt:Hid (((aF p al cl plain pick r).toList.drop 0).take 21=(ah p r.h).toList):=rfl;have hhs:=fX p r.h;have gH1:(ah p r.h)[1]?=some (.slice p.ar r.h.regs.length p.cr):=rfl;have gH2:(ah p r.h)[2]?=some (.int .u64 r.h.pc):=rfl;have gC2:(aF p al cl plain pick r)[2]?=some (.int .u64 r.h.pc):=rfl;have HHo:=hid (hZ p r.h);have hpt:=hr.h.low;have hlo:=hr.low;generalize hC:aF p al cl plain pick r=C at hsz HHt gC2 |-;have HC:Hid _:=hC;generalize hD:ah p r.h=D at HHt hhs gH1 gH2 HHo;have HD:Hid _:=hD;clear hr hk hC hD;go_enter Tryz.func88,Tryz.ntmps88;go_upto_region 1 with fail;have F:=eu w C dm 66 66;generalize (w.alloc (Obj.cells C 66)).alloc (Obj.cells dm 66)=v1 at F |-;obtain ⟨h3,h6,l1,n1⟩:=F;have H3:Hid _:=h3;have H6:Hid _:=h6;have b1:w.heap.size<v1.heap.size:=by omega
 have b2:w.heap.size+1<v1.heap.size:=by omega
 clear h3 h6 l1;have HLh:Hid _:=bY (P:=Tryz.prog) (T:=39) H3.out Tryz.underlying39 rfl (o:=0) D.toList dP HHt.out (by rw [Array.length_toList,hhs]);simp only [Array.toArray_toList] at HLh;have a1:=bL v1 ft 39;have HSh:Hid _:=bB (P:=Tryz.prog) (T:=39) (V:=D) a1.1 (by rw [hhs];exact dP) (by rw [hhs,eT]) HHo.out;have K5:Hid _:=aX (V:=D) a1.1 (by rw [hhs,eT]);have n2:=bst n1 a1.2.2;have n3:=aS (show w.heap.size<=v1.heap.size by omega) D.toList 0 _ n2;have K3:Hid _:=fU (ae H3.out a1.2.2 b1) 0 D.toList (show w.heap.size≠v1.heap.size by omega);have K6:Hid _:=fU (ae H6.out a1.2.2 b2) 0 D.toList (show w.heap.size+1≠v1.heap.size by omega);have s2:v1.heap.size<((v1.alloc (Obj.cells ft 39)).setCells v1.heap.size 0 D.toList).heap.size:=by rw [cN];omega
 clear a1;go_upto_region 2 with (first
  | ((with_reducible refine aI ?_ HLh.out ?_);(exact rfl))
  | ((with_reducible refine aH ?_ ?_ HSh.out ?_);(exact rfl);(exact rfl)))
 generalize (v1.alloc (Obj.cells ft 39)).setCells v1.heap.size 0 D.toList=v2 at K3 K5 K6 n3 s2 |-;clear HLh HSh n2 H3 H6 n1;obtain ⟨hp1,hp2⟩:=hp;obtain ⟨hq1,hq2⟩:=hq;obtain ⟨hs1,hs2⟩:=hs;obtain ⟨a,ha,ha8⟩:∃a:Nat,P%8=a∧a<8:=⟨(P%8).toNat,by omega,by omega⟩;obtain ⟨b,hb,hb8⟩:∃b:Nat,P/8%8=b∧b<8:=⟨(P/8%8).toNat,by omega,by omega⟩;obtain ⟨c,hc,hc8⟩:∃c:Nat,q%8=c∧c<8:=⟨(q%8).toNat,by omega,by omega⟩;obtain ⟨W,hW⟩:∃W,fT ((c:Int)%4)=W:=⟨_,rfl⟩;have HW:Hid (W=2^((c:Int)%4).toNat):=hW.symm;have hW1:1<=W∧W<=8:=by
  rw [<-hW];have hc4:(c:Int)%4=0∨(c:Int)%4=1∨(c:Int)%4=2∨(c:Int)%4=3:=by omega
  rcases hc4 with h | h | h | h <;> rw [h] <;> decide
 obtain ⟨hW1,hW8⟩:=hW1;have HWm:Hid (fT ((c:Int)%4)=W):=hW;clear hW;rcases HI.out.h.regs.2 with h0 | ⟨rb,ro,har,hrlt,hcell⟩
 ·omega
 rw [har,hreg] at gH1;have hrw:rb<v2.heap.size:=Nat.lt_of_lt_of_le hrlt n3.size;have HCl:Hid (∀n:Nat,n<8->v2.cell? ⟨rb,ro+n,none⟩=some (.int .u64 (fo r.h n))):=fun n hn=>Below.cell2 n3 (hcell n _ (uu r.h.regs n (by omega))) hrlt;have ca:=HCl.out a ha8;have cb:=HCl.out b hb8;have cc:=HCl.out c hc8;have k1:=aa K5.out 1 gH1;have k2:=aa K5.out 2 gH2;have k3:=aa K3.out 2 gC2;have k4:=aE K3.out 2;have hpc:=HOK.out.h.pc;have hcr:=HI.out.h.regc;rw [hreg] at hcr;have b3:w.heap.size<v2.heap.size:=by omega
 obtain ⟨xa,hxa⟩:∃xa,fo r.h a=xa:=⟨_,rfl⟩;obtain ⟨xb,hxb⟩:∃xb,fo r.h b=xb:=⟨_,rfl⟩;obtain ⟨xc,hxc⟩:∃xc,fo r.h c=xc:=⟨_,rfl⟩;obtain ⟨pc,hpc'⟩:∃pc,r.h.pc=pc:=⟨_,rfl⟩;rw [hxa] at ca;rw [hxb] at cb;rw [hxc] at cc;rw [hpc'] at k2 k3 hpc;have HXa:=hid hxa.symm;have HXb:=hid hxb.symm;have HXc:=hid hxc.symm;have HPc:=hid hpc'.symm;have HpA:Hid (P%8=a∧a<8):=⟨ha,ha8⟩;have HpB:Hid (P/8%8=b∧b<8):=⟨hb,hb8⟩;have HpC:Hid (q%8=c∧c<8):=⟨hc,hc8⟩;clear hxa hxb hxc hpc';have hpc1:=hpc.1;have hpc2:=hpc.2;clear hpc;have HE:Hid (ExecIn w (v2.setCell ⟨w.heap.size,2,none⟩ (.int .u64 (IntKind.u64.wrap (pc+4)))) v1.heap.size p al cl plain pick r):=by
  have hwr:IntKind.u64.wrap (pc+4)=(r.h.pc+4)%18446744073709551616:=by rw [HPc.out];rfl
  have nn:=bK n3 nle 2 (.int .u64 (IntKind.u64.wrap (pc+4)));refine ⟨?_,ba K6.out 2 _ (by omega),?_,by omega,?_,nn,hpt,hlo⟩
  ·rw [HX.out C HC.out,<-hwr];exact cu K3.out 2 _
  ·rw [HD.out];exact ba K5.out 2 _ (by omega)
  ·have k:=HI.out.keep nn;exact ⟨⟨k.h.mem,k.h.memc,k.h.regs,k.h.regc,k.h.rega,k.h.ks,k.h.low⟩,k.looks,k.lookc,k.looka,k.lookl,k.low⟩
 clear K3 K5 K6 gH1 gH2 gC2;have HX':=HX;clear HX hpt hlo n3;clear hcell;by_cases h128:128<=s
 ·go_upto_region 10 with fail;rw [ha,hb,hc];clear ha hb hc;go_upto_region 13 with fail;go_upto_region 14 with (go_at_call 112;refine (bR ((c:Int)%4) W _ (by omega) HW.out).mono ?_;rintro e w' ⟨rfl,rfl⟩);go_upto_region 16 with fail;refine HH.out _ v1.heap.size a b c _ _ xa xb xc W pc HE.out HpA.out HpB.out HpC.out ?_ ?_ HXa.out HXb.out HXc.out HWm.out.symm HPc.out _ (by assumption) C _ _ _ _ _ _ _ _ _ _ _ _ _ _ _ _ _ _ _ _ _ _ _ _ _ _ _ _ _ _ _ _ _ _ _ _ _ _ _ _ _ _ _ _ _ _ _ _
  ·unfold fW;rw [if_pos h128];rfl
  ·unfold fW;rw [if_pos h128];rfl
 ·go_upto_region 10 with fail;rw [ha,hb,hc];clear ha hb hc;go_upto_region 13 with fail;go_upto_region 14 with (go_at_call 112;refine (bR ((c:Int)%4) W _ (by omega) HW.out).mono ?_;rintro e w' ⟨rfl,rfl⟩);go_upto_region 16 with fail;refine HH.out _ v1.heap.size a b c _ _ xa xb xc W pc HE.out HpA.out HpB.out HpC.out ?_ ?_ HXa.out HXb.out HXc.out HWm.out.symm HPc.out _ (by assumption) C _ _ _ _ _ _ _ _ _ _ _ _ _ _ _ _ _ _ _ _ _ _ _ _ _ _ _ _ _ _ _ _ _ _ _ _ _ _ _ _ _ _ _ _ _ _ _ _
  ·unfold fW;rw [if_neg (by omega)];omega
  ·unfold fW;rw [if_neg (by omega)];omega
end
section
attribute [local go_sem ↓] Go.wp_at_zero Go.wp_at_succ
def eI (w:World) (p:PtrM) (al:Option Addr) (cl:Nat) (plain:Bool) (pick:Int) (X:RunM):Ending->World->Prop:=fun e w'=>(∃p' al' cl',e=.returned (.agg (aF p' al' cl' plain pick X))∧RunIn w' p' al' cl' X∧From w.heap.size p p'∧FromL w.heap.size al al')∧Below w.heap.size w w'
theorem zJ {w v v2:World} {hb:Nat} {p p':PtrM} {al al':Option Addr} {cl cl':Nat} {plain:Bool} {pick:Int} {r X:RunM} (hE:ExecIn w v hb p al cl plain pick r) (hI:RunIn v2 p' al' cl' X) (hF:From v.heap.size p p') (hL:FromL v.heap.size al al') (hn:Below v.heap.size v v2) (L:List Value):
 eI w p al cl plain pick X (.returned (.agg (aF p' al' cl' plain pick X))) (v2.setCells (w.heap.size+1) 0 L):=by
 have h1:=(hpl hE.res);have g:=aM (w.heap.size+1) L 0 v2 v2 (au v2 _);have n:=bst hE.below hn;refine ⟨⟨p',al',cl',rfl,hI.gb g (fun q hq=>?_) (fun q hq=>?_),fun q hq=>?_,fun q hq=>?_⟩,aS (by omega) L 0 v2 n⟩
 ·rcases hF q hq with h | h
  ·have:=hE.ptrs q h;omega
  ·have h':v.heap.size<=q.block:=h;omega
 ·rcases hL q hq with h | h
  ·have:=hE.looks q h;omega
  ·have h':v.heap.size<=q.block:=h;omega
 ·rcases hF q hq with h | h
  ·exact .inl h
  ·exact .inr (Nat.le_trans (by omega) h)
 ·rcases hL q hq with h | h
  ·exact .inl h
  ·exact .inr (Nat.le_trans (by omega) h)
theorem ExecIn.keep {w v v2:World} {hb:Nat} {p:PtrM} {al:Option Addr} {cl:Nat} {plain:Bool} {pick:Int} {r:RunM} (hE:ExecIn w v hb p al cl plain pick r) (hn:Below v.heap.size v v2):ExecIn w v2 hb p al cl plain pick r:=
 ⟨ae hE.run hn (hpl hE.run),ae hE.res hn (hpl hE.res),ae hE.hart hn (hpl hE.hart),hE.hb,hE.runIn.keep hn,bst hE.below hn,hE.ptrs,hE.looks⟩
theorem yw {w v v2:World} {hb:Nat} {p:PtrM} {al:Option Addr} {cl:Nat} {plain:Bool} {pick:Int} {r X:RunM} (hE:ExecIn w v hb p al cl plain pick r) (hI:RunIn v2 p al cl X) (hn:Below w.heap.size w v2) (L:List Value):
 eI w p al cl plain pick X (.returned (.agg (aF p al cl plain pick X))) (v2.setCells (w.heap.size+1) 0 L):=by
 have g:=aM (w.heap.size+1) L 0 v2 v2 (au v2 _);refine ⟨⟨p,al,cl,rfl,hI.gb g (fun q hq=>?_) (fun q hq=>?_),fun q hq=>.inl hq,fun q hq=>.inl hq⟩,aS (by omega) L 0 v2 hn⟩
 ·have:=hE.ptrs q hq;omega
 ·have:=hE.looks q hq;omega
theorem kG (x m:Int):IntKind.u64.wrap (x+m%18446744073709551616)=(x+m)%18446744073709551616:=by
 show (x+m%18446744073709551616)%18446744073709551616=_;omega
theorem qr (n:Nat) (al:Option Addr):FromL n al al:=fun q hq=>.inl hq
theorem yx (n:Nat) (p:PtrM):From n p p:=fun q hq=>.inl hq
structure EX where
 w:World
 v:World
 hb:Nat
 a:Nat
 b:Nat
 c:Nat
 p:PtrM
 al:Option Addr
 cl:Nat
 plain:Bool
 pick:Int
 r:RunM
 P:Int
 q:Int
 s:Int
 word:Int
 imm:Int
 jump:Int
 xa:Int
 xb:Int
 xc:Int
 W:Int
 pc:Int
structure ExecH (x:EX):Prop where
 E:ExecIn x.w x.v x.hb x.p x.al x.cl x.plain x.pick x.r
 ok:ROk x.r
 reg:x.r.h.regs.length=8
 pk:0<=x.pick∧x.pick<=255
 c0:x.r.cause=0
 ll:x.r.looks.length<=6
 s:0<=x.s∧x.s<=255
 wd:inU x.word
 pa:x.P%8=x.a∧x.a<8
 pb:x.P/8%8=x.b∧x.b<8
 pq:x.q%8=x.c∧x.c<8
 im:x.imm=fW x.s%18446744073709551616
 ju:x.jump=4*fW x.s%18446744073709551616
 xa:x.xa=fo x.r.h x.a
 xb:x.xb=fo x.r.h x.b
 xc:x.xc=fo x.r.h x.c
 W:x.W=fT ((x.c:Int)%4)
 pc:x.pc=x.r.h.pc
def qu (op:Int) (x:EX):Prop:=∀(Q:Exit->Act->World->Prop) (X:RunM),Hid (eQ x.plain x.pick x.r op x.P x.q x.s x.word=X)->Hid (bodyPost Tryz.prog Tryz.f88 (eI x.w x.p x.al x.cl x.plain x.pick X)=Q)->ze op x.w x.v x.hb x.a x.b x.c x.P x.q x.s x.word x.imm x.jump x.xa x.xb x.xc x.W x.pc Q
theorem jY {w v v2:World} {hb:Nat} {p p':PtrM} {al al':Option Addr} {cl cl':Nat} {plain:Bool} {pick:Int} {r X Y:RunM} {Q:Exit->Act->World->Prop} (hE:ExecIn w v hb p al cl plain pick r) (hI:RunIn v2 p' al' cl' X) (hF:From v.heap.size p p') (hL:FromL v.heap.size al al') (hn:Below v.heap.size v v2) (hQ:bodyPost Tryz.prog Tryz.f88 (eI w p al cl plain pick Y)=Q) (hY:Y=X):
 ∃u2,Hid ((Instr.storeAt 66 (.pointer (some ⟨w.heap.size+1,0,none⟩)) (.agg (aF p' al' cl' plain pick X))).run Tryz.prog v2=.ok () u2)∧Hid (∀a:Act,a.tmps[12]?=some (.pointer (some ⟨w.heap.size+1,0,none⟩))->a.defers=[]->Q .ret a u2):=by
 have hs:=bh p' al' cl' plain pick X;have k6:=ae hE.res hn (hpl hE.res);have hv:=aX (V:=aF p' al' cl' plain pick X) k6 (by rw [hs,aR]);refine ⟨_,bB (P:=Tryz.prog) (T:=66) k6 (by rw [hs];exact cR) (by rw [hs,aR]) (cZ _ _ _ _ _ _),fun a ha hd=>?_⟩;rw [<-hQ,hY];exact dx (b:=w.heap.size+1) Tryz.results88 ha (bx (P:=Tryz.prog) hv Tryz.underlying66 rfl (by rw [hs];exact cR)) hd (zJ hE hI hF hL hn _)
theorem tu {u:World} {b:Nat} {p:PtrM} {al:Option Addr} {cl:Nat} {plain:Bool} {pick:Int} {r:RunM} (h:u.heap[b]?=some (.cells (aF p al cl plain pick r) 66 (0,0))):Hid ((Instr.loadAt 66 (.pointer (some ⟨b,0,none⟩))).run Tryz.prog u=.ok (.agg (aF p al cl plain pick r)) u):=
 aT (P:=Tryz.prog) (T:=66) h Tryz.underlying66 rfl (by rw [bh];exact cR)
structure FSq (w:World) (p:PtrM) (al:Option Addr) (cl:Nat) (r:RunM) (A:Array Value) (u:World):Prop where
 run:u.heap[w.heap.size]?=some (.cells A 66 (0,0))
 res:u.heap[w.heap.size+1]?=some (.cells dm 66 (0,0))
 rin:RunIn u p al cl (ao r)
 below:Below w.heap.size w u
 ptrs:∀q,some q∈aV p->q.block<w.heap.size
 looks:∀q,al=some q->q.block<w.heap.size
theorem FSq.of {w v:World} {hb:Nat} {p:PtrM} {al:Option Addr} {cl:Nat} {plain:Bool} {pick:Int} {r:RunM} (h:ExecIn w v hb p al cl plain pick r):FSq w p al cl r (aF p al cl plain pick (ao r)) v:=⟨h.run,h.res,h.runIn,h.below,h.ptrs,h.looks⟩
theorem FSq.set {w u:World} {p:PtrM} {al:Option Addr} {cl:Nat} {r:RunM} {A:Array Value} (h:FSq w p al cl r A u) (k:Nat) (x:Value):FSq w p al cl r (A.setIfInBounds k x) (u.setCell ⟨w.heap.size,k,none⟩ x):=
 ⟨cu h.run k x,ba h.res k x (by omega),h.rin.gb (ak (au u (some w.heap.size)) k x) (fun q hq=>by have:=h.ptrs q hq;omega) (fun q hq=>by have:=h.looks q hq;omega),bK h.below nle k x,h.ptrs,h.looks⟩
theorem FSq.step {w u u2:World} {p:PtrM} {al:Option Addr} {cl:Nat} {r:RunM} {A:Array Value} (h:FSq w p al cl r A u) (n:Below u.heap.size u u2):FSq w p al cl r A u2:=
 ⟨ae h.run n (hpl h.run),ae h.res n (hpl h.res),h.rin.keep n,bst h.below n,h.ptrs,h.looks⟩
theorem uL {u:World} {p:PtrM} {al:Option Addr} {cl:Nat} {r X:RunM} (k:RunIn u p al cl r) (hm:X.h.mem=r.h.mem) (hr:X.h.regs=r.h.regs) (hk:X.h.k=r.h.k) (hl:X.looks=r.looks):RunIn u p al cl X:=by
 obtain ⟨⟨k1,k2,k3,k4,k5,k6,k7⟩,k8,k9,k10,k11,k12⟩:=k;rw [<-hm] at k1 k2;rw [<-hr] at k3 k4 k5;rw [<-hk] at k6;rw [<-hl] at k8 k9 k10 k11;exact ⟨⟨k1,k2,k3,k4,k5,k6,k7⟩,k8,k9,k10,k11,k12⟩
theorem FSq.fin {w u:World} {p:PtrM} {al:Option Addr} {cl:Nat} {plain:Bool} {pick:Int} {r X:RunM} {A:Array Value} {Q:Exit->Act->World->Prop} (h:FSq w p al cl r A u) (hQ:bodyPost Tryz.prog Tryz.f88 (eI w p al cl plain pick X)=Q) (hA:A=aF p al cl plain pick X) (hm:X.h.mem=(ao r).h.mem) (hr:X.h.regs=(ao r).h.regs) (hk:X.h.k=(ao r).h.k) (hl:X.looks=(ao r).looks):
 ∃E u2,Hid ((Instr.loadAt 66 (.pointer (some ⟨w.heap.size,0,none⟩))).run Tryz.prog u=.ok (.agg E) u)∧Hid ((Instr.storeAt 66 (.pointer (some ⟨w.heap.size+1,0,none⟩)) (.agg E)).run Tryz.prog u=.ok () u2)∧Hid (∀a:Act,a.tmps[12]?=some (.pointer (some ⟨w.heap.size+1,0,none⟩))->a.defers=[]->Q .ret a u2):=by
 subst hA;have hs:=bh p al cl plain pick X;have hI:=uL (X:=X) h.rin hm hr hk hl;have hv:=aX (V:=aF p al cl plain pick X) h.res (by rw [hs,aR]);refine ⟨_,_,tu h.run,bB (P:=Tryz.prog) (T:=66) h.res (by rw [hs];exact cR) (by rw [hs,aR]) (cZ _ _ _ _ _ _),fun a ha hd=>?_⟩;rw [<-hQ];refine dx (b:=w.heap.size+1) Tryz.results88 ha (bx (P:=Tryz.prog) hv Tryz.underlying66 rfl (by rw [hs];exact cR)) hd ?_;have g:=aM (w.heap.size+1) (aF p al cl plain pick X).toList 0 u u (au u _);refine ⟨⟨p,al,cl,rfl,hI.gb g (fun q hq=>?_) (fun q hq=>?_),fun q hq=>.inl hq,fun q hq=>.inl hq⟩,aS (by omega) _ 0 u h.below⟩
 ·have:=h.ptrs q hq;omega
 ·have:=h.looks q hq;omega
def xE (p:PtrM) (al:Option Addr) (cl:Nat) (plain:Bool) (pick:Int) (X:RunM) (u:World) (e:Ending) (w':World):Prop:=∃p',e=.returned (.agg (aF p' al cl plain pick X))∧RunIn w' p' al cl X∧From u.heap.size p p'∧Below u.heap.size u w'
theorem zK {p:PtrM} {al:Option Addr} {cl:Nat} {plain:Bool} {pick:Int} {r:RunM} {c t:Int} {u:World} (hu:RunIn u p al cl r):Calls Tryz.prog 85 #[.agg (aF p al cl plain pick r),.int .i64 c,.int .u64 t] u (xE p al cl plain pick (bP r c t) u):=by
 refine (ip p al cl plain pick r c t u).mono ?_;rintro e w' ⟨rfl,n⟩;exact ⟨p,rfl,uL (hu.keep n) rfl rfl rfl rfl,yx _ _,n⟩
theorem AO {p:PtrM} {al:Option Addr} {cl:Nat} {plain:Bool} {pick:Int} {r:RunM} {a:Nat} {V:Int} {u:World} (hu:RunIn u p al cl r) (h8:r.h.regs.length=8) (ha:a<8):Calls Tryz.prog 120 #[.agg (aF p al cl plain pick r),.int .i64 (a:Nat),.int .u64 V] u (xE p al cl plain pick (bU r a V) u):=by
 refine (gU p al cl plain pick r a V u hu (by omega) (by omega) (by omega)).mono ?_;rintro e w' ⟨⟨p',rfl,h1,h2⟩,n⟩;exact ⟨p',rfl,h1,h2,n⟩
theorem exq {R:Ending->World->Prop} {Q:Exit->Act->World->Prop} {f:Func} (h:bodyPost Tryz.prog f R=Q):Hid (∀x (a:Act) d z w,Q (.panic x) (a.put d z) w->Q (.panic x) a w):=by
 show ∀x (a:Act) d z w,Q (.panic x) (a.put d z) w->Q (.panic x) a w;rw [<-h];exact fun _ _ d _ _ h=>by cases d <;> exact h
end
section
attribute [local go_sem ↓] Go.wp_at_zero Go.wp_at_succ
theorem eB (x:EX) (H:ExecH x) (op:Int) (hc:op=1∨op=2∨op=3∨(op=9∨op=10∨op=11)∧x.r.h.mode=0∨(op=12∨op=13)∧x.r.h.mode≠2∨op=13∧x.r.h.mode=2∧2<x.c∨op=14∨op=0∨15<=op∧op<=255):qu op x:=by
 obtain ⟨w,v,hb,a,b,c,p,al,cl,plain,pick,r,P,q,s,word,imm,jump,xa,xb,xc,W,pc⟩:=x;obtain ⟨hE,hok,hreg,hpk,h0,hll,hs,hwd,hpa,hpb,hpc,him,hju,hxa,hxb,hxc,hW,hpcc⟩:=H;intro Q X HX HQ K hK C
 intros
 dsimp only at *;simp only [eS,ek,gH,Tryz.f88,Option.getD] at hK |-;have k3:=aa hE.hart 3 (show (ah p r.h)[3]?=some (.int .i64 r.h.mode) from rfl);have hbv:=(hpl hE.hart);have HE:=hid hE;have hmo:=hok.h.v.mode;have HT:Hid (∀c t,X=bP (ao r) c t->∀u,RunIn u p al cl (ao r)->Calls Tryz.prog 85 #[.agg (aF p al cl plain pick (ao r)),.int .i64 c,.int .u64 t] u (xE p al cl plain pick X u)):=fun c t h u hu=>by rw [h];exact zK hu
 have HS:Hid (∀V,X=bU (ao r) a V->∀u,RunIn u p al cl (ao r)->Calls Tryz.prog 120 #[.agg (aF p al cl plain pick (ao r)),.int .i64 (a:Nat),.int .u64 V] u (xE p al cl plain pick X u)):=fun V h u hu=>by rw [h];exact AO hu hreg hpa.2
 have HLd:=tu hE.run;replace HX:=HX.out;unfold eQ doM at HX;rcases hc with rfl | rfl | rfl | ⟨rfl | rfl | rfl,hm⟩ | ⟨rfl | rfl,hm⟩ | ⟨rfl,hm,hc2⟩ | rfl | rfl | ⟨hb1,hb2⟩;have HC:Hid _:=HS.out imm (by rw [<-HX,if_neg (by simp [bQ]),if_pos rfl,him,<-hpa.1];rfl)
 rotate_left
 have HC:Hid _:=HS.out (IntKind.u64.wrap (xb+xc)) (by rw [<-HX,if_neg (by simp [bQ]),if_neg (by decide),if_pos rfl,hxb,hxc,<-hpb.1,<-hpc.1,<-hpa.1];rfl)
 rotate_left
 have HC:Hid _:=HS.out (IntKind.u64.wrap (xb+imm)) (by rw [<-HX,if_neg (by simp [bQ]),if_neg (by decide),if_neg (by decide),if_pos rfl,hxb,him,<-hpb.1,kG,<-hpa.1];rfl)
 rotate_left
 iterate 3
  have HC:Hid _:=HT.out 2 word (by rw [<-HX,if_pos (by simp [bQ,bH,dV,hm])];rfl);rw [hm] at k3
  rotate_left
 iterate 2
  have HC:Hid _:=HT.out 2 word (by rw [<-HX,if_pos (by simp [bQ,bH,dV,hm])];rfl);generalize r.h.mode=mo at k3 hm
  rotate_left
 have HC:Hid _:=HT.out 2 word (by rw [<-HX,if_pos (by simp only [bQ,bH,dV,hm,hpc.1];simp;omega)];rfl);rw [hm] at k3
 rotate_left
 have HC:Hid _:=HT.out (8+r.h.mode) 0 (by rw [<-HX,if_neg (by simp [bQ]),if_neg (by decide),if_neg (by decide),if_neg (by decide),if_neg (by decide),if_neg (by decide),if_neg (by decide),if_neg (by decide),if_neg (by decide),if_neg (by decide),if_neg (by decide),if_neg (by decide),if_neg (by decide),if_neg (by decide),if_pos rfl];rfl);obtain ⟨hm1,hm2⟩:=hmo
 rotate_left
 have HC:Hid _:=HT.out 2 word (by rw [<-HX,if_neg (by simp [bQ]),if_neg (by decide),if_neg (by decide),if_neg (by decide),if_neg (by decide),if_neg (by decide),if_neg (by decide),if_neg (by decide),if_neg (by decide),if_neg (by decide),if_neg (by decide),if_neg (by decide),if_neg (by decide),if_neg (by decide),if_neg (by decide)];rfl)
 rotate_left
 have HC:Hid _:=HT.out 2 word (by rw [<-HX,if_neg (by simp only [bQ];simp;omega),if_neg (by omega),if_neg (by omega),if_neg (by omega),if_neg (by omega),if_neg (by omega),if_neg (by omega),if_neg (by omega),if_neg (by omega),if_neg (by omega),if_neg (by omega),if_neg (by omega),if_neg (by omega),if_neg (by omega),if_neg (by omega)];rfl)
 rotate_left
 all_goals
  clear HT HS HX hE hok hpa hpb hpc him hju hxa hxb hxc hW hpcc h0 hll hs hwd hpk;generalize aF p al cl plain pick (ao r)=D at HC HLd
 focus go_upto_region 21 with fail
 rotate_left
 focus go_upto_region 23 with fail
 rotate_left
 focus go_upto_region 25 with fail
 rotate_left
 iterate 6
  focus go_upto_region 18 with fail
  rotate_left
 focus go_upto_region 72 with fail
 rotate_left
 focus go_upto_region 73 with fail
 rotate_left
 focus go_upto_region 73 with fail
 rotate_left
 all_goals
  as_aux_lemma=>
   go_wp2_with ((with_reducible refine aI ?_ HLd.out ?_);(exact rfl));refine (HC.out v HE.out.runIn).mono ?_;rintro e v2 ⟨p',rfl,hI2,hF2,n2⟩;obtain ⟨u2,HSr,HR⟩:=jY HE.out hI2 hF2 (qr _ _) n2 HQ.out rfl;generalize aF p' al cl plain pick X=E at HSr |-;go_wp2_with ((with_reducible refine aH ?_ ?_ HSr.out ?_);(exact rfl);(exact rfl));exact HR.out _ rfl rfl
end
section
attribute [local go_sem ↓] Go.wp_at_zero Go.wp_at_succ
theorem nQ (x:EX) (H:ExecH x) (op:Int) (hc:op=8∧x.xa=x.xb∨op=8∧x.xa≠x.xb∨op=12∧x.r.h.mode=2∨op=13∧x.r.h.mode=2∧¬2<x.c):qu op x:=by
 obtain ⟨w,v,hb,a,b,c,p,al,cl,plain,pick,r,P,q,s,word,imm,jump,xa,xb,xc,W,pc⟩:=x;obtain ⟨hE,hok,hreg,hpk,h0,hll,hs,hwd,hpa,hpb,hpc,him,hju,hxa,hxb,hxc,hW,hpcc⟩:=H;intro Q X HX HQ K hK C
 intros
 dsimp only at *;simp only [eS,ek,gH,Tryz.f88,Option.getD] at hK |-;have k3:=aa hE.hart 3 (show (ah p r.h)[3]?=some (.int .i64 r.h.mode) from rfl);have hbv:=(hpl hE.hart);have HE:=hid hE;have hav:=(hpl hE.run);have k8:=aa HE.out.hart 8 (show (ah p r.h)[8]?=some (.int .u64 r.h.epc) from rfl);have k9:=aa HE.out.hart 9 (show (ah p r.h)[9]?=some (.int .i64 r.h.emode) from rfl);have hne:hb≠w.heap.size:=by have:=HE.out.hb;omega
 rcases hc with ⟨rfl,hm⟩ | ⟨rfl,hm⟩ | ⟨rfl,hm⟩ | ⟨rfl,hm,hc2⟩;have hX:X=ao r:=by
  rw [<-HX.out];unfold eQ doM;rw [if_neg (by simp [bQ]),if_neg (by decide),if_neg (by decide),if_neg (by decide),if_neg (by decide),if_neg (by decide),if_neg (by decide),if_neg (by decide),if_pos rfl,if_pos (by rw [hpa.1,hpb.1];rw [hxa,hxb] at hm;exact hm)];rfl
 obtain ⟨v2,e2,HF⟩:∃v2,v=v2∧Hid (FSq w p al cl r _ v2):=⟨_,rfl,(FSq.of HE.out)⟩;have F2:=HF.out.fin HQ.out (by rw [hX] <;> rfl) (by rw [hX] <;> rfl) (by rw [hX] <;> rfl) (by rw [hX] <;> rfl) (by rw [hX] <;> rfl);clear hX
 rotate_left
 have hX:X=bH (ao r) (dV (ao r).h (IntKind.u64.wrap (pc+jump))):=by
  rw [<-HX.out];unfold eQ doM;rw [if_neg (by simp [bQ]),if_neg (by decide),if_neg (by decide),if_neg (by decide),if_neg (by decide),if_neg (by decide),if_neg (by decide),if_neg (by decide),if_pos rfl,if_neg (by rw [hpa.1,hpb.1];rw [hxa,hxb] at hm;exact hm),hju,kG,hpcc];rfl
 obtain ⟨v2,e2,HF⟩:∃v2,(v.setCell ⟨w.heap.size,2,none⟩ (.int .u64 (IntKind.u64.wrap (pc+jump))))=v2∧Hid (FSq w p al cl r _ v2):=⟨_,rfl,((FSq.of HE.out).set 2 (.int .u64 (IntKind.u64.wrap (pc+jump))))⟩;have F2:=HF.out.fin HQ.out (by rw [hX] <;> rfl) (by rw [hX] <;> rfl) (by rw [hX] <;> rfl) (by rw [hX] <;> rfl) (by rw [hX] <;> rfl);clear hX;have c2:=aa HE.out.run 2 (show (aF p al cl plain pick (ao r))[2]?=some _ from rfl);have f2:=aE HE.out.run 2
 rotate_left
 have hX:X=bH (ao r) ⟨r.h.mem,r.h.regs,IntKind.u64.wrap (r.h.epc+jump),r.h.emode,r.h.sum,r.h.mxr,r.h.satp,r.h.tvec,r.h.epc,r.h.emode,r.h.cause,r.h.tval,r.h.k⟩:=by
  rw [<-HX.out];unfold eQ doM;rw [if_neg (by simp [bQ,bH,dV,hm]),if_neg (by decide),if_neg (by decide),if_neg (by decide),if_neg (by decide),if_neg (by decide),if_neg (by decide),if_neg (by decide),if_neg (by decide),if_neg (by decide),if_neg (by decide),if_neg (by decide),if_pos rfl,hju,kG];rfl
 rw [hm] at k3;obtain ⟨v2,e2,HF⟩:∃v2,((v.setCell ⟨w.heap.size,2,none⟩ (.int .u64 (IntKind.u64.wrap (r.h.epc+jump)))).setCell ⟨w.heap.size,3,none⟩ (.int .i64 r.h.emode))=v2∧Hid (FSq w p al cl r _ v2):=⟨_,rfl,(((FSq.of HE.out).set 2 (.int .u64 (IntKind.u64.wrap (r.h.epc+jump)))).set 3 (.int .i64 r.h.emode))⟩;have F2:=HF.out.fin HQ.out (by rw [hX] <;> rfl) (by rw [hX] <;> rfl) (by rw [hX] <;> rfl) (by rw [hX] <;> rfl) (by rw [hX] <;> rfl);clear hX;have c2:=aa HE.out.run 2 (show (aF p al cl plain pick (ao r))[2]?=some _ from rfl);have f2:=aE HE.out.run 2;have c3:=aa HE.out.run 3 (show (aF p al cl plain pick (ao r))[3]?=some _ from rfl);have f3:=aE HE.out.run 3
 rotate_left
 have hX:X=bH (ao r) ⟨r.h.mem,r.h.regs,(ao r).h.pc,r.h.mode,r.h.sum,r.h.mxr,r.h.satp,r.h.tvec,xa,(c:Int),r.h.cause,r.h.tval,r.h.k⟩:=by
  rw [<-HX.out];unfold eQ doM;rw [if_neg (by simp only [bQ,bH,dV,hm,hpc.1];simp;omega),if_neg (by decide),if_neg (by decide),if_neg (by decide),if_neg (by decide),if_neg (by decide),if_neg (by decide),if_neg (by decide),if_neg (by decide),if_neg (by decide),if_neg (by decide),if_neg (by decide),if_neg (by decide),if_pos rfl,hpc.1,hpa.1,hxa];rfl
 rw [hm] at k3;obtain ⟨v2,e2,HF⟩:∃v2,((v.setCell ⟨w.heap.size,8,none⟩ (.int .u64 xa)).setCell ⟨w.heap.size,9,none⟩ (.int .i64 (c:Nat)))=v2∧Hid (FSq w p al cl r _ v2):=⟨_,rfl,(((FSq.of HE.out).set 8 (.int .u64 xa)).set 9 (.int .i64 (c:Nat)))⟩;have F2:=HF.out.fin HQ.out (by rw [hX] <;> rfl) (by rw [hX] <;> rfl) (by rw [hX] <;> rfl) (by rw [hX] <;> rfl) (by rw [hX] <;> rfl);clear hX;have c8:=aa HE.out.run 8 (show (aF p al cl plain pick (ao r))[8]?=some _ from rfl);have f8:=aE HE.out.run 8;have c9:=aa HE.out.run 9 (show (aF p al cl plain pick (ao r))[9]?=some _ from rfl);have f9:=aE HE.out.run 9
 rotate_left
 all_goals
  obtain ⟨E,u2,HLd,HSr,HR⟩:=F2;clear HF HX hE hok hpa hpb hpc him hju hxa hxb hxc hW hpcc h0 hll hs hwd hpk
 iterate 2
  focus go_upto_region 48 with fail
  rotate_left
 focus go_upto_region 66 with fail
 rotate_left
 focus go_upto_region 70 with fail
 rotate_left
 all_goals
  try rw [e2]
  go_wp2_with (first
   | ((with_reducible refine aI ?_ HLd.out ?_);(exact rfl))
   | ((with_reducible refine aH ?_ ?_ HSr.out ?_);(exact rfl);(exact rfl)))
  exact HR.out _ rfl rfl
end
section
attribute [local go_sem ↓] Go.wp_at_zero Go.wp_at_succ
theorem yK (x:EX) (H:ExecH x) (hmo:x.r.h.mode≠0):qu 9 x:=by
 obtain ⟨w,v,hb,a,b,c,p,al,cl,plain,pick,r,P,q,s,word,imm,jump,xa,xb,xc,W,pc⟩:=x;obtain ⟨hE,hok,hreg,hpk,h0,hll,hs,hwd,hpa,hpb,hpc,him,hju,hxa,hxb,hxc,hW,hpcc⟩:=H;intro Q X HX HQ K hK C
 intros
 dsimp only at *;simp only [eS,ek,gH,Tryz.f88,Option.getD] at hK |-;have k3:=aa hE.hart 3 (show (ah p r.h)[3]?=some (.int .i64 r.h.mode) from rfl);have hbv:=(hpl hE.hart);have HE:=hid hE;have HXu:inU xa:=by rw [hxa];exact hok.h.regs _
 have HX2:Hid (X=if dE xa=true then bH (ao r) ⟨r.h.mem,r.h.regs,(ao r).h.pc,r.h.mode,r.h.sum,r.h.mxr,xa,r.h.tvec,r.h.epc,r.h.emode,r.h.cause,r.h.tval,r.h.k⟩ else ao r):=by
  show _=_;rw [<-HX.out];unfold eQ doM;rw [if_neg (by simp [bQ,bH,dV,hmo]),if_neg (by decide),if_neg (by decide),if_neg (by decide),if_neg (by decide),if_neg (by decide),if_neg (by decide),if_neg (by decide),if_neg (by decide),if_pos rfl,hpa.1,hxa];rfl
 generalize r.h.mode=mo at k3 hmo;clear HX hE hok hpa hpb hpc him hju hxa hxb hxc hW hpcc h0 hll hs hwd hpk;go_upto_region 50 with fail;go_wp2_with fail;refine (jp xa v HXu.1 HXu.2).mono ?_;rintro e v1 ⟨rfl,nS⟩;have HE2:=hid (HE.out.keep nS);clear k3 hbv nS HE;have hav:=(hpl HE2.out.run);have c6:=aa HE2.out.run 6 (show (aF p al cl plain pick (ao r))[6]?=some _ from rfl);have f6:=aE HE2.out.run 6;have hX:=HX2.out;clear HX2;cases hsc:dE xa;rw [hsc,if_neg (by decide)] at hX;obtain ⟨v2,e2,HF⟩:∃v2,v1=v2∧Hid (FSq w p al cl r _ v2):=⟨_,rfl,(FSq.of HE2.out)⟩
 rotate_left
 rw [hsc,if_pos rfl] at hX;obtain ⟨v2,e2,HF⟩:∃v2,v1.setCell ⟨w.heap.size,6,none⟩ (.int .u64 xa)=v2∧Hid (FSq w p al cl r _ v2):=⟨_,rfl,(FSq.of HE2.out).set 6 (.int .u64 xa)⟩
 rotate_left
 all_goals
  obtain ⟨E,u2,HLd,HSr,HR⟩:=HF.out.fin HQ.out (by rw [hX] <;> rfl) (by rw [hX] <;> rfl) (by rw [hX] <;> rfl) (by rw [hX] <;> rfl) (by rw [hX] <;> rfl);clear hX HF;go_upto_region 52 with fail;try rw [e2]
  go_wp2_with (first
   | ((with_reducible refine aI ?_ HLd.out ?_);(exact rfl))
   | ((with_reducible refine aH ?_ ?_ HSr.out ?_);(exact rfl);(exact rfl)))
  exact HR.out _ rfl rfl
end
end Go.Proofs.YtgnnmgfgfihljaaGreat
