import Derived.Test.YtaoaifmkhbgaiaaGreatPk29
namespace Go.Proofs.YtaoaifmkhbgaiaaGreat
open Go.RowKit
set_option linter.unusedVariables false
attribute [local go_sem ↓] Go.wp_at_zero Go.wp_at_succ
def dn:Nat→Code→Code
 | 0,c=>c
 | n+1,.seq _ c=>dn n c
 | _+1,c=>c
def eo:Code→Code
 | .seq c _=>c
 | c=>c
def eF (f:Func):Code:=f.body.getD .skip
def aq (r:RunM):RunM:=cF r (gI r.h ((r.h.pc+4)%18446744073709551616))
structure ExecIn (w v:World) (hb:Nat) (p:PtrM) (al:Option Addr) (cl:Nat) (plain:Bool) (pick:Int) (r:RunM):Prop where
 run:v.heap[w.heap.size]?=some (.cells (aK p al cl plain pick (aq r)) 143 (0,0))
 res:v.heap[w.heap.size+1]?=some (.cells ek 143 (0,0))
 hart:v.heap[hb]?=some (.cells (aD p r.h) 48 (0,0))
 hb:w.heap.size+1<hb
 runIn:RunIn v p al cl (aq r)
 below:Below w.heap.size w v
 ptrs:∀q,some q∈aQ p→q.block<w.heap.size
 looks:∀q,al=some q→q.block<w.heap.size
def ze (op:Int) (w v:World) (hb a b c:Nat) (P q s word imm jump xa xb xc W pc:Int) (Q:Exit→Act→World→Prop):Prop:=
 ∀K:Act→World→Prop,(∀a w,(dn 15 (eF Tryz.f147)).wp Tryz.prog Q a w→K a w)→∀(C:Array Value) (u32 u33 u34 u35 u36 u37 u38 u39 u40 u41 u42 u43 u44 u45 u46 u47 u48 u49 u50 u51 u52 u53 u54 u55 u56 u57 u58 u59 u60 u61 u62 u63 u64 u65 u66 u67 u68 u69 u70 u71 u72 u73 u74 u75 u76 u77 u78 u79:Value),(eo (dn 14 (eF Tryz.f147))).wp Tryz.prog (Exit.then K Q) ⟨#[.agg C,.int .i64 op,.int .i64 P,.int .i64 q,.int .i64 s,.int .u64 word,.pointer (some ⟨w.heap.size,0,none⟩),undef,undef,undef,undef,undef,.pointer (some ⟨w.heap.size+1,0,none⟩),.pointer (some ⟨hb,0,none⟩),.int .i64 (a:Nat),.int .i64 (b:Nat),.int .i64 (c:Nat),.int .u64 imm,.int .u64 jump,.int .u64 xa,.int .u64 xb,.int .u64 xc,.int .i64 W,.int .u64 pc,undef,undef,undef,undef,undef,undef,undef,undef,u32,u33,u34,u35,u36,u37,u38,u39,u40,u41,u42,u43,u44,u45,u46,u47,u48,u49,u50,u51,u52,u53,u54,u55,u56,u57,u58,u59,u60,u61,u62,u63,u64,u65,u66,u67,u68,u69,u70,u71,u72,u73,u74,u75,u76,u77,u78,u79,undef,undef,undef,undef,undef,undef,undef,undef,undef,undef,undef,undef,undef,undef,undef,undef,undef,undef,undef,undef,undef,undef,undef,undef,undef,undef,undef,undef,undef,undef,undef,undef,undef,undef,undef,undef,undef,undef,undef,undef,undef,undef,undef,undef,undef,undef,undef,undef,undef,undef,undef,undef,undef,undef,undef,undef,undef,undef,undef,undef,undef,undef,undef,undef,undef,undef,undef,undef,undef,undef,undef,undef,undef,undef,undef,undef,undef,undef,undef,undef,undef,undef,undef,undef,undef,undef,undef,undef,undef,undef,undef,undef,undef,undef,undef,undef,undef,undef,undef,undef,undef,undef,undef,undef,undef,undef,undef,undef,undef,undef,undef,undef,undef,undef,undef,undef,undef,undef,undef,undef,undef,undef,undef,undef,undef,undef,undef,undef,undef,undef,undef,undef,undef,undef,undef,undef,undef,undef,undef,undef,undef,undef,undef,undef,undef,undef,undef,undef,undef,undef,undef,undef,undef,undef,undef,undef,undef,undef,undef,undef,undef,undef,undef,undef,undef,undef,undef,undef,undef,undef,undef,undef,undef,undef,undef,undef,undef,undef,undef,undef,undef,undef,undef,undef,undef,undef,undef,undef,undef,undef,undef,undef,undef,undef,undef,undef,undef,undef,undef,undef,undef,undef,undef,undef,undef,undef,undef,undef,undef,undef,undef,undef,undef,undef,undef,undef,undef,undef,undef,undef,undef,undef,undef,undef,undef,undef,undef,undef,undef,undef,undef,undef,undef,undef,undef,undef,undef,undef,undef,undef,undef,undef,undef,undef,undef,undef,undef,undef],[]⟩ v
set_option maxRecDepth 20000 in
set_option maxHeartbeats 3200000 in
theorem tY (p:PtrM) (al:Option Addr) (cl:Nat) (plain:Bool) (pick:Int) (r:RunM) (op P q s word:Int) (w:World) (hr:RunIn w p al cl r) (hk:ROk r) (hreg:r.h.regs.length=8)
 (hop:0≤op∧op≤255) (hp:0≤P∧P≤255) (hq:0≤q∧q≤255) (hs:0≤s∧s≤255) (R:Ending→World→Prop)
 (H:∀(v:World) (hb a b c:Nat) (imm jump xa xb xc W pc:Int),ExecIn w v hb p al cl plain pick r→P%8=a∧a<8→P/8%8=b∧b<8→q%8=c∧c<8→imm=qH s%18446744073709551616→jump=4*qH s%18446744073709551616→xa=gJ r.h a→xb=gJ r.h b→xc=gJ r.h c→W=jU ((c:Int)%4)→pc=r.h.pc→ze op w v hb a b c P q s word imm jump xa xb xc W pc (bodyPost Tryz.prog Tryz.f147 R)):
  Calls Tryz.prog 147 #[.agg (aK p al cl plain pick r),.int .i64 op,.int .i64 P,.int .i64 q,.int .i64 s,.int .u64 word] w R:=by
 have HH:Hid _:=H;clear H;have HX:Hid (∀(C:Array Value),aK p al cl plain pick r=C→aK p al cl plain pick (aq r)=C.setIfInBounds 2 (.int .u64 ((r.h.pc+4)%18446744073709551616))):=fun C h=>by rw [←h];rfl
 have HI:Hid (RunIn w p al cl r):=hr;have HOK:Hid (ROk r):=hk;have hsz:=bD p al cl plain pick r;have HHt:Hid (((aK p al cl plain pick r).toList.drop 0).take 21=(aD p r.h).toList):=rfl;have hhs:=ez p r.h;have gH1:(aD p r.h)[1]?=some (.slice p.ar r.h.regs.length p.cr):=rfl;have gH2:(aD p r.h)[2]?=some (.int .u64 r.h.pc):=rfl;have gC2:(aK p al cl plain pick r)[2]?=some (.int .u64 r.h.pc):=rfl;have HHo:Hid ((aD p r.h).all (·.oneCell')=true):=fD p r.h;have hpt:=hr.h.low;have hlo:=hr.low;generalize hC:aK p al cl plain pick r=C at hsz HHt gC2 ⊢;have HC:Hid _:=hC;generalize hD:aD p r.h=D at HHt hhs gH1 gH2 HHo;have HD:Hid _:=hD;clear hr hk hC hD;go_enter Tryz.func147,Tryz.ntmps147;go_upto_region 1 with fail;have F:=eU w C ek 143 143;generalize (w.alloc (Obj.cells C 143)).alloc (Obj.cells ek 143)=v1 at F ⊢;obtain ⟨h3,h6,l1,n1⟩:=F;have H3:Hid _:=h3;have H6:Hid _:=h6;have b1:w.heap.size<v1.heap.size:=by omega
 have b2:w.heap.size+1<v1.heap.size:=by omega
 clear h3 h6 l1;have HLh:Hid _:=co (P:=Tryz.prog) (T:=48) H3.out Tryz.underlying48 rfl (o:=0) D.toList fW HHt.out (by rw [Array.length_toList,hhs]);simp only [Array.toArray_toList] at HLh;have a1:=di v1 fu 48;have HSh:Hid _:=bO (P:=Tryz.prog) (T:=48) (V:=D) a1.1 (by rw [hhs];exact fW) (by rw [hhs,fE]) HHo.out;have K5:Hid _:=bs (V:=D) a1.1 (by rw [hhs,fE]);have n2:=Below.step n1 a1.2.2 (Nat.le_refl _);have n3:=bf (show w.heap.size≤v1.heap.size by omega) D.toList 0 _ n2;have K3:Hid _:=ia (ab H3.out a1.2.2 b1) 0 D.toList (show w.heap.size≠v1.heap.size by omega);have K6:Hid _:=ia (ab H6.out a1.2.2 b2) 0 D.toList (show w.heap.size+1≠v1.heap.size by omega);have s2:v1.heap.size<((v1.alloc (Obj.cells fu 48)).setCells v1.heap.size 0 D.toList).heap.size:=by rw [dy];omega
 clear a1;go_upto_region 2 with (first
  | ((with_reducible refine az ?_ HLh.out ?_);(exact rfl))
  | ((with_reducible refine au ?_ ?_ HSh.out ?_);(exact rfl);(exact rfl)))
 generalize (v1.alloc (Obj.cells fu 48)).setCells v1.heap.size 0 D.toList=v2 at K3 K5 K6 n3 s2 ⊢;clear HLh HSh n2 H3 H6 n1;obtain ⟨hp1,hp2⟩:=hp;obtain ⟨hq1,hq2⟩:=hq;obtain ⟨hs1,hs2⟩:=hs;obtain ⟨a,ha,ha8⟩:∃a:Nat,P%8=a∧a<8:=⟨(P%8).toNat,by omega,by omega⟩;obtain ⟨b,hb,hb8⟩:∃b:Nat,P/8%8=b∧b<8:=⟨(P/8%8).toNat,by omega,by omega⟩;obtain ⟨c,hc,hc8⟩:∃c:Nat,q%8=c∧c<8:=⟨(q%8).toNat,by omega,by omega⟩;obtain ⟨W,hW⟩:∃W,jU ((c:Int)%4)=W:=⟨_,rfl⟩;have HW:Hid (W=2^((c:Int)%4).toNat):=hW.symm;have hW1:1≤W∧W≤8:=by
  rw [←hW];have hc4:(c:Int)%4=0∨(c:Int)%4=1∨(c:Int)%4=2∨(c:Int)%4=3:=by omega
  rcases hc4 with h | h | h | h <;> rw [h] <;> decide
 obtain ⟨hW1,hW8⟩:=hW1;have HWm:Hid (jU ((c:Int)%4)=W):=hW;clear hW;rcases HI.out.h.regs.2 with h0 | ⟨rb,ro,har,hrlt,hcell⟩
 ·omega
 rw [har,hreg] at gH1;have hrw:rb<v2.heap.size:=Nat.lt_of_lt_of_le hrlt n3.size;have HCl:Hid (∀n:Nat,n<8→v2.cell? ⟨rb,ro+n,none⟩=some (.int .u64 (gJ r.h n))):=fun n hn=>Below.cell2 n3 (hcell n _ (uW r.h.regs n (by omega))) hrlt;have ca:=HCl.out a ha8;have cb:=HCl.out b hb8;have cc:=HCl.out c hc8;have k1:=ag K5.out 1 gH1;have k2:=ag K5.out 2 gH2;have k3:=ag K3.out 2 gC2;have k4:=aA K3.out 2;have hpc:=HOK.out.h.pc;have hcr:=HI.out.h.regc;rw [hreg] at hcr;have b3:w.heap.size<v2.heap.size:=by omega
 obtain ⟨xa,hxa⟩:∃xa,gJ r.h a=xa:=⟨_,rfl⟩;obtain ⟨xb,hxb⟩:∃xb,gJ r.h b=xb:=⟨_,rfl⟩;obtain ⟨xc,hxc⟩:∃xc,gJ r.h c=xc:=⟨_,rfl⟩;obtain ⟨pc,hpc'⟩:∃pc,r.h.pc=pc:=⟨_,rfl⟩;rw [hxa] at ca;rw [hxb] at cb;rw [hxc] at cc;rw [hpc'] at k2 k3 hpc;have HXa:Hid (xa=gJ r.h a):=hxa.symm;have HXb:Hid (xb=gJ r.h b):=hxb.symm;have HXc:Hid (xc=gJ r.h c):=hxc.symm;have HPc:Hid (pc=r.h.pc):=hpc'.symm;have HpA:Hid (P%8=a∧a<8):=⟨ha,ha8⟩;have HpB:Hid (P/8%8=b∧b<8):=⟨hb,hb8⟩;have HpC:Hid (q%8=c∧c<8):=⟨hc,hc8⟩;clear hxa hxb hxc hpc';have hpc1:=hpc.1;have hpc2:=hpc.2;clear hpc;have HE:Hid (ExecIn w (v2.setCell ⟨w.heap.size,2,none⟩ (.int .u64 (IntKind.u64.wrap (pc+4)))) v1.heap.size p al cl plain pick r):=by
  have hwr:IntKind.u64.wrap (pc+4)=(r.h.pc+4)%18446744073709551616:=by rw [HPc.out];rfl
  have nn:=dC n3 (Nat.le_refl _) 2 (.int .u64 (IntKind.u64.wrap (pc+4)));refine ⟨?_,dJ K6.out 2 _ (by omega),?_,by omega,?_,nn,hpt,hlo⟩
  ·rw [HX.out C HC.out,←hwr];exact da K3.out 2 _
  ·rw [HD.out];exact dJ K5.out 2 _ (by omega)
  ·have k:=HI.out.keep nn;exact ⟨⟨k.h.mem,k.h.memc,k.h.regs,k.h.regc,k.h.rega,k.h.ks,k.h.low⟩,k.looks,k.lookc,k.looka,k.lookl,k.low⟩
 clear K3 K5 K6 gH1 gH2 gC2;have HX':=HX;clear HX hpt hlo n3;clear hcell;by_cases h128:128≤s
 ·go_upto_region 10 with fail;rw [ha,hb,hc];clear ha hb hc;go_upto_region 13 with fail;go_upto_region 14 with (go_at_call 50;refine (aZ ((c:Int)%4) W _ (by omega) HW.out).mono ?_;rintro e w' ⟨rfl,rfl⟩);go_upto_region 16 with fail;refine HH.out _ v1.heap.size a b c _ _ xa xb xc W pc HE.out HpA.out HpB.out HpC.out ?_ ?_ HXa.out HXb.out HXc.out HWm.out.symm HPc.out _ (by assumption) C _ _ _ _ _ _ _ _ _ _ _ _ _ _ _ _ _ _ _ _ _ _ _ _ _ _ _ _ _ _ _ _ _ _ _ _ _ _ _ _ _ _ _ _ _ _ _ _
  ·unfold qH;rw [if_pos h128];rfl
  ·unfold qH;rw [if_pos h128];rfl
 ·go_upto_region 10 with fail;rw [ha,hb,hc];clear ha hb hc;go_upto_region 13 with fail;go_upto_region 14 with (go_at_call 50;refine (aZ ((c:Int)%4) W _ (by omega) HW.out).mono ?_;rintro e w' ⟨rfl,rfl⟩);go_upto_region 16 with fail;refine HH.out _ v1.heap.size a b c _ _ xa xb xc W pc HE.out HpA.out HpB.out HpC.out ?_ ?_ HXa.out HXb.out HXc.out HWm.out.symm HPc.out _ (by assumption) C _ _ _ _ _ _ _ _ _ _ _ _ _ _ _ _ _ _ _ _ _ _ _ _ _ _ _ _ _ _ _ _ _ _ _ _ _ _ _ _ _ _ _ _ _ _ _ _
  ·unfold qH;rw [if_neg (by omega)];omega
  ·unfold qH;rw [if_neg (by omega)];omega
end Go.Proofs.YtaoaifmkhbgaiaaGreat

namespace Go.Proofs.YtaoaifmkhbgaiaaGreat
open Go.RowKit
set_option linter.unusedVariables false
attribute [local go_sem ↓] Go.wp_at_zero Go.wp_at_succ
def fq (w:World) (p:PtrM) (al:Option Addr) (cl:Nat) (plain:Bool) (pick:Int) (X:RunM):Ending→World→Prop:=fun e w'=>(∃p' al' cl',e=.returned (.agg (aK p' al' cl' plain pick X))∧RunIn w' p' al' cl' X∧From w.heap.size p p'∧FromL w.heap.size al al')∧Below w.heap.size w w'
theorem zv {w v v2:World} {hb:Nat} {p p':PtrM} {al al':Option Addr} {cl cl':Nat} {plain:Bool} {pick:Int} {r X:RunM} (hE:ExecIn w v hb p al cl plain pick r) (hI:RunIn v2 p' al' cl' X) (hF:From v.heap.size p p') (hL:FromL v.heap.size al al') (hn:Below v.heap.size v v2) (L:List Value):
 fq w p al cl plain pick X (.returned (.agg (aK p' al' cl' plain pick X))) (v2.setCells (w.heap.size+1) 0 L):=by
 have h1:w.heap.size+1<v.heap.size:=(Array.getElem?_eq_some_iff.1 hE.res).1;have g:=aU (w.heap.size+1) L 0 v2 v2 (aE v2 _);have n:=Below.step hE.below hn (Nat.le_refl _);refine ⟨⟨p',al',cl',rfl,hI.gb g (fun q hq=>?_) (fun q hq=>?_),fun q hq=>?_,fun q hq=>?_⟩,bf (by omega) L 0 v2 n⟩
 ·rcases hF q hq with h | h
  ·have:=hE.ptrs q h;omega
  ·have h':v.heap.size≤q.block:=h;omega
 ·rcases hL q hq with h | h
  ·have:=hE.looks q h;omega
  ·have h':v.heap.size≤q.block:=h;omega
 ·rcases hF q hq with h | h
  ·exact .inl h
  ·exact .inr (Nat.le_trans (by omega) h)
 ·rcases hL q hq with h | h
  ·exact .inl h
  ·exact .inr (Nat.le_trans (by omega) h)
theorem ExecIn.keep {w v v2:World} {hb:Nat} {p:PtrM} {al:Option Addr} {cl:Nat} {plain:Bool} {pick:Int} {r:RunM} (hE:ExecIn w v hb p al cl plain pick r) (hn:Below v.heap.size v v2):ExecIn w v2 hb p al cl plain pick r:=
 ⟨ab hE.run hn (Array.getElem?_eq_some_iff.1 hE.run).1,ab hE.res hn (Array.getElem?_eq_some_iff.1 hE.res).1,ab hE.hart hn (Array.getElem?_eq_some_iff.1 hE.hart).1,hE.hb,hE.runIn.keep hn,Below.step hE.below hn (Nat.le_refl _),hE.ptrs,hE.looks⟩
theorem yz {w v v2:World} {hb:Nat} {p:PtrM} {al:Option Addr} {cl:Nat} {plain:Bool} {pick:Int} {r X:RunM} (hE:ExecIn w v hb p al cl plain pick r) (hI:RunIn v2 p al cl X) (hn:Below w.heap.size w v2) (L:List Value):
 fq w p al cl plain pick X (.returned (.agg (aK p al cl plain pick X))) (v2.setCells (w.heap.size+1) 0 L):=by
 have g:=aU (w.heap.size+1) L 0 v2 v2 (aE v2 _);refine ⟨⟨p,al,cl,rfl,hI.gb g (fun q hq=>?_) (fun q hq=>?_),fun q hq=>.inl hq,fun q hq=>.inl hq⟩,bf (by omega) L 0 v2 hn⟩
 ·have:=hE.ptrs q hq;omega
 ·have:=hE.looks q hq;omega
theorem mE (x m:Int):IntKind.u64.wrap (x+m%18446744073709551616)=(x+m)%18446744073709551616:=by
 show (x+m%18446744073709551616)%18446744073709551616=_;omega
theorem rH (n:Nat) (al:Option Addr):FromL n al al:=fun q hq=>.inl hq
theorem yA (n:Nat) (p:PtrM):From n p p:=fun q hq=>.inl hq
structure EX where
 w:World
 v:World
 hb:Nat
 a:Nat
 b:Nat
 c:Nat
 p:PtrM
 al:Option Addr
 cl:Nat
 plain:Bool
 pick:Int
 r:RunM
 P:Int
 q:Int
 s:Int
 word:Int
 imm:Int
 jump:Int
 xa:Int
 xb:Int
 xc:Int
 W:Int
 pc:Int
structure ExecH (x:EX):Prop where
 E:ExecIn x.w x.v x.hb x.p x.al x.cl x.plain x.pick x.r
 ok:ROk x.r
 reg:x.r.h.regs.length=8
 pk:0≤x.pick∧x.pick≤255
 c0:x.r.cause=0
 ll:x.r.looks.length≤6
 s:0≤x.s∧x.s≤255
 wd:inU x.word
 pa:x.P%8=x.a∧x.a<8
 pb:x.P/8%8=x.b∧x.b<8
 pq:x.q%8=x.c∧x.c<8
 im:x.imm=qH x.s%18446744073709551616
 ju:x.jump=4*qH x.s%18446744073709551616
 xa:x.xa=gJ x.r.h x.a
 xb:x.xb=gJ x.r.h x.b
 xc:x.xc=gJ x.r.h x.c
 W:x.W=jU ((x.c:Int)%4)
 pc:x.pc=x.r.h.pc
def rI (op:Int) (x:EX):Prop:=∀(Q:Exit→Act→World→Prop) (X:RunM),Hid (fI x.plain x.pick x.r op x.P x.q x.s x.word=X)→Hid (bodyPost Tryz.prog Tryz.f147 (fq x.w x.p x.al x.cl x.plain x.pick X)=Q)→ze op x.w x.v x.hb x.a x.b x.c x.P x.q x.s x.word x.imm x.jump x.xa x.xb x.xc x.W x.pc Q
theorem lU {w v v2:World} {hb:Nat} {p p':PtrM} {al al':Option Addr} {cl cl':Nat} {plain:Bool} {pick:Int} {r X Y:RunM} {Q:Exit→Act→World→Prop} (hE:ExecIn w v hb p al cl plain pick r) (hI:RunIn v2 p' al' cl' X) (hF:From v.heap.size p p') (hL:FromL v.heap.size al al') (hn:Below v.heap.size v v2) (hQ:bodyPost Tryz.prog Tryz.f147 (fq w p al cl plain pick Y)=Q) (hY:Y=X):
 ∃u2,Hid ((Instr.storeAt 143 (.pointer (some ⟨w.heap.size+1,0,none⟩)) (.agg (aK p' al' cl' plain pick X))).run Tryz.prog v2=.ok () u2)∧Hid (∀a:Act,a.tmps[12]?=some (.pointer (some ⟨w.heap.size+1,0,none⟩))→a.defers=[]→Q .ret a u2):=by
 have hs:=bD p' al' cl' plain pick X;have k6:=ab hE.res hn (Array.getElem?_eq_some_iff.1 hE.res).1;have hv:=bs (V:=aK p' al' cl' plain pick X) k6 (by rw [hs,a8]);refine ⟨_,bO (P:=Tryz.prog) (T:=143) k6 (by rw [hs];exact du) (by rw [hs,a8]) (dU _ _ _ _ _ _),fun a ha hd=>?_⟩;rw [←hQ,hY];exact ec (b:=w.heap.size+1) Tryz.results147 ha (bj (P:=Tryz.prog) hv Tryz.underlying143 rfl (by rw [hs];exact du)) hd (zv hE hI hF hL hn _)
theorem uj {u:World} {b:Nat} {p:PtrM} {al:Option Addr} {cl:Nat} {plain:Bool} {pick:Int} {r:RunM} (h:u.heap[b]?=some (.cells (aK p al cl plain pick r) 143 (0,0))):Hid ((Instr.loadAt 143 (.pointer (some ⟨b,0,none⟩))).run Tryz.prog u=.ok (.agg (aK p al cl plain pick r)) u):=
 aB (P:=Tryz.prog) (T:=143) h Tryz.underlying143 rfl (by rw [bD];exact du)
structure FSq (w:World) (p:PtrM) (al:Option Addr) (cl:Nat) (r:RunM) (A:Array Value) (u:World):Prop where
 run:u.heap[w.heap.size]?=some (.cells A 143 (0,0))
 res:u.heap[w.heap.size+1]?=some (.cells ek 143 (0,0))
 rin:RunIn u p al cl (aq r)
 below:Below w.heap.size w u
 ptrs:∀q,some q∈aQ p→q.block<w.heap.size
 looks:∀q,al=some q→q.block<w.heap.size
theorem FSq.of {w v:World} {hb:Nat} {p:PtrM} {al:Option Addr} {cl:Nat} {plain:Bool} {pick:Int} {r:RunM} (h:ExecIn w v hb p al cl plain pick r):FSq w p al cl r (aK p al cl plain pick (aq r)) v:=⟨h.run,h.res,h.runIn,h.below,h.ptrs,h.looks⟩
theorem FSq.set {w u:World} {p:PtrM} {al:Option Addr} {cl:Nat} {r:RunM} {A:Array Value} (h:FSq w p al cl r A u) (k:Nat) (x:Value):FSq w p al cl r (A.setIfInBounds k x) (u.setCell ⟨w.heap.size,k,none⟩ x):=
 ⟨da h.run k x,dJ h.res k x (by omega),h.rin.gb (ax (aE u (some w.heap.size)) k x) (fun q hq=>by have:=h.ptrs q hq;omega) (fun q hq=>by have:=h.looks q hq;omega),dC h.below (Nat.le_refl _) k x,h.ptrs,h.looks⟩
theorem FSq.step {w u u2:World} {p:PtrM} {al:Option Addr} {cl:Nat} {r:RunM} {A:Array Value} (h:FSq w p al cl r A u) (n:Below u.heap.size u u2):FSq w p al cl r A u2:=
 ⟨ab h.run n (Array.getElem?_eq_some_iff.1 h.run).1,ab h.res n (Array.getElem?_eq_some_iff.1 h.res).1,h.rin.keep n,Below.step h.below n (Nat.le_refl _),h.ptrs,h.looks⟩
theorem vj {u:World} {p:PtrM} {al:Option Addr} {cl:Nat} {r X:RunM} (k:RunIn u p al cl r) (hm:X.h.mem=r.h.mem) (hr:X.h.regs=r.h.regs) (hk:X.h.k=r.h.k) (hl:X.looks=r.looks):RunIn u p al cl X:=by
 obtain ⟨⟨k1,k2,k3,k4,k5,k6,k7⟩,k8,k9,k10,k11,k12⟩:=k;rw [←hm] at k1 k2;rw [←hr] at k3 k4 k5;rw [←hk] at k6;rw [←hl] at k8 k9 k10 k11;exact ⟨⟨k1,k2,k3,k4,k5,k6,k7⟩,k8,k9,k10,k11,k12⟩
theorem FSq.fin {w u:World} {p:PtrM} {al:Option Addr} {cl:Nat} {plain:Bool} {pick:Int} {r X:RunM} {A:Array Value} {Q:Exit→Act→World→Prop} (h:FSq w p al cl r A u) (hQ:bodyPost Tryz.prog Tryz.f147 (fq w p al cl plain pick X)=Q) (hA:A=aK p al cl plain pick X) (hm:X.h.mem=(aq r).h.mem) (hr:X.h.regs=(aq r).h.regs) (hk:X.h.k=(aq r).h.k) (hl:X.looks=(aq r).looks):
 ∃E u2,Hid ((Instr.loadAt 143 (.pointer (some ⟨w.heap.size,0,none⟩))).run Tryz.prog u=.ok (.agg E) u)∧Hid ((Instr.storeAt 143 (.pointer (some ⟨w.heap.size+1,0,none⟩)) (.agg E)).run Tryz.prog u=.ok () u2)∧Hid (∀a:Act,a.tmps[12]?=some (.pointer (some ⟨w.heap.size+1,0,none⟩))→a.defers=[]→Q .ret a u2):=by
 subst hA;have hs:=bD p al cl plain pick X;have hI:=vj (X:=X) h.rin hm hr hk hl;have hv:=bs (V:=aK p al cl plain pick X) h.res (by rw [hs,a8]);refine ⟨_,_,uj h.run,bO (P:=Tryz.prog) (T:=143) h.res (by rw [hs];exact du) (by rw [hs,a8]) (dU _ _ _ _ _ _),fun a ha hd=>?_⟩;rw [←hQ];refine ec (b:=w.heap.size+1) Tryz.results147 ha (bj (P:=Tryz.prog) hv Tryz.underlying143 rfl (by rw [hs];exact du)) hd ?_;have g:=aU (w.heap.size+1) (aK p al cl plain pick X).toList 0 u u (aE u _);refine ⟨⟨p,al,cl,rfl,hI.gb g (fun q hq=>?_) (fun q hq=>?_),fun q hq=>.inl hq,fun q hq=>.inl hq⟩,bf (by omega) _ 0 u h.below⟩
 ·have:=h.ptrs q hq;omega
 ·have:=h.looks q hq;omega
def xH (p:PtrM) (al:Option Addr) (cl:Nat) (plain:Bool) (pick:Int) (X:RunM) (u:World) (e:Ending) (w':World):Prop:=∃p',e=.returned (.agg (aK p' al cl plain pick X))∧RunIn w' p' al cl X∧From u.heap.size p p'∧Below u.heap.size u w'
theorem zw {p:PtrM} {al:Option Addr} {cl:Nat} {plain:Bool} {pick:Int} {r:RunM} {c t:Int} {u:World} (hu:RunIn u p al cl r):Calls Tryz.prog 145 #[.agg (aK p al cl plain pick r),.int .i64 c,.int .u64 t] u (xH p al cl plain pick (dc r c t) u):=by
 refine (jk p al cl plain pick r c t u).mono ?_;rintro e w' ⟨rfl,n⟩;exact ⟨p,rfl,vj (hu.keep n) rfl rfl rfl rfl,yA _ _,n⟩
theorem Am {p:PtrM} {al:Option Addr} {cl:Nat} {plain:Bool} {pick:Int} {r:RunM} {a:Nat} {V:Int} {u:World} (hu:RunIn u p al cl r) (h8:r.h.regs.length=8) (ha:a<8):Calls Tryz.prog 158 #[.agg (aK p al cl plain pick r),.int .i64 (a:Nat),.int .u64 V] u (xH p al cl plain pick (cZ r a V) u):=by
 refine (iJ p al cl plain pick r a V u hu (by omega) (by omega) (by omega)).mono ?_;rintro e w' ⟨⟨p',rfl,h1,h2⟩,n⟩;exact ⟨p',rfl,h1,h2,n⟩
theorem exq {R:Ending→World→Prop} {Q:Exit→Act→World→Prop} {f:Func} (h:bodyPost Tryz.prog f R=Q):Hid (∀x (a:Act) d z w,Q (.panic x) (a.put d z) w→Q (.panic x) a w):=by
 show ∀x (a:Act) d z w,Q (.panic x) (a.put d z) w→Q (.panic x) a w;rw [←h];exact fun _ _ d _ _ h=>by cases d <;> exact h
end Go.Proofs.YtaoaifmkhbgaiaaGreat

namespace Go.Proofs.YtaoaifmkhbgaiaaGreat
open Go.RowKit
set_option linter.unusedVariables false
attribute [local go_sem ↓] Go.wp_at_zero Go.wp_at_succ
set_option maxRecDepth 20000 in
set_option maxHeartbeats 3200000 in
theorem fm (x:EX) (H:ExecH x) (op:Int) (hc:op=1∨op=2∨op=3∨(op=9∨op=10∨op=11)∧x.r.h.mode=0∨(op=12∨op=13)∧x.r.h.mode≠2∨op=13∧x.r.h.mode=2∧2<x.c∨op=14∨op=0∨15≤op∧op≤255):rI op x:=by
 obtain ⟨w,v,hb,a,b,c,p,al,cl,plain,pick,r,P,q,s,word,imm,jump,xa,xb,xc,W,pc⟩:=x;obtain ⟨hE,hok,hreg,hpk,h0,hll,hs,hwd,hpa,hpb,hpc,him,hju,hxa,hxb,hxc,hW,hpcc⟩:=H;intro Q X HX HQ K hK C
 intros
 dsimp only at *;simp only [eo,dn,eF,Tryz.f147,Option.getD] at hK ⊢;have k3:=ag hE.hart 3 (show (aD p r.h)[3]?=some (.int .i64 r.h.mode) from rfl);have hbv:hb<v.heap.size:=(Array.getElem?_eq_some_iff.1 hE.hart).1;have HE:Hid (ExecIn w v hb p al cl plain pick r):=hE;have hmo:=hok.h.v.mode;have HT:Hid (∀c t,X=dc (aq r) c t→∀u,RunIn u p al cl (aq r)→Calls Tryz.prog 145 #[.agg (aK p al cl plain pick (aq r)),.int .i64 c,.int .u64 t] u (xH p al cl plain pick X u)):=fun c t h u hu=>by rw [h];exact zw hu
 have HS:Hid (∀V,X=cZ (aq r) a V→∀u,RunIn u p al cl (aq r)→Calls Tryz.prog 158 #[.agg (aK p al cl plain pick (aq r)),.int .i64 (a:Nat),.int .u64 V] u (xH p al cl plain pick X u)):=fun V h u hu=>by rw [h];exact Am hu hreg hpa.2
 have HLd:=uj hE.run;replace HX:=HX.out;unfold fI doM at HX;rcases hc with rfl | rfl | rfl | ⟨rfl | rfl | rfl,hm⟩ | ⟨rfl | rfl,hm⟩ | ⟨rfl,hm,hc2⟩ | rfl | rfl | ⟨hb1,hb2⟩;have HC:Hid _:=HS.out imm (by rw [←HX,if_neg (by simp [de]),if_pos rfl,him,←hpa.1];rfl)
 rotate_left
 have HC:Hid _:=HS.out (IntKind.u64.wrap (xb+xc)) (by rw [←HX,if_neg (by simp [de]),if_neg (by decide),if_pos rfl,hxb,hxc,←hpb.1,←hpc.1,←hpa.1];rfl)
 rotate_left
 have HC:Hid _:=HS.out (IntKind.u64.wrap (xb+imm)) (by rw [←HX,if_neg (by simp [de]),if_neg (by decide),if_neg (by decide),if_pos rfl,hxb,him,←hpb.1,mE,←hpa.1];rfl)
 rotate_left
 iterate 3
  have HC:Hid _:=HT.out 2 word (by rw [←HX,if_pos (by simp [de,cF,gI,hm])];rfl);rw [hm] at k3
  rotate_left
 iterate 2
  have HC:Hid _:=HT.out 2 word (by rw [←HX,if_pos (by simp [de,cF,gI,hm])];rfl);generalize r.h.mode=mo at k3 hm
  rotate_left
 have HC:Hid _:=HT.out 2 word (by rw [←HX,if_pos (by simp only [de,cF,gI,hm,hpc.1];simp;omega)];rfl);rw [hm] at k3
 rotate_left
 have HC:Hid _:=HT.out (8+r.h.mode) 0 (by rw [←HX,if_neg (by simp [de]),if_neg (by decide),if_neg (by decide),if_neg (by decide),if_neg (by decide),if_neg (by decide),if_neg (by decide),if_neg (by decide),if_neg (by decide),if_neg (by decide),if_neg (by decide),if_neg (by decide),if_neg (by decide),if_neg (by decide),if_pos rfl];rfl);obtain ⟨hm1,hm2⟩:=hmo
 rotate_left
 have HC:Hid _:=HT.out 2 word (by rw [←HX,if_neg (by simp [de]),if_neg (by decide),if_neg (by decide),if_neg (by decide),if_neg (by decide),if_neg (by decide),if_neg (by decide),if_neg (by decide),if_neg (by decide),if_neg (by decide),if_neg (by decide),if_neg (by decide),if_neg (by decide),if_neg (by decide),if_neg (by decide)];rfl)
 rotate_left
 have HC:Hid _:=HT.out 2 word (by rw [←HX,if_neg (by simp only [de];simp;omega),if_neg (by omega),if_neg (by omega),if_neg (by omega),if_neg (by omega),if_neg (by omega),if_neg (by omega),if_neg (by omega),if_neg (by omega),if_neg (by omega),if_neg (by omega),if_neg (by omega),if_neg (by omega),if_neg (by omega),if_neg (by omega)];rfl)
 rotate_left
 all_goals
  clear HT HS HX hE hok hpa hpb hpc him hju hxa hxb hxc hW hpcc h0 hll hs hwd hpk;generalize aK p al cl plain pick (aq r)=D at HC HLd
 focus go_upto_region 21 with fail
 rotate_left
 focus go_upto_region 23 with fail
 rotate_left
 focus go_upto_region 25 with fail
 rotate_left
 iterate 6
  focus go_upto_region 18 with fail
  rotate_left
 focus go_upto_region 72 with fail
 rotate_left
 focus go_upto_region 73 with fail
 rotate_left
 focus go_upto_region 73 with fail
 rotate_left
 all_goals
  as_aux_lemma=>
   go_wp2_with ((with_reducible refine az ?_ HLd.out ?_);(exact rfl));refine (HC.out v HE.out.runIn).mono ?_;rintro e v2 ⟨p',rfl,hI2,hF2,n2⟩;obtain ⟨u2,HSr,HR⟩:=lU HE.out hI2 hF2 (rH _ _) n2 HQ.out rfl;generalize aK p' al cl plain pick X=E at HSr ⊢;go_wp2_with ((with_reducible refine au ?_ ?_ HSr.out ?_);(exact rfl);(exact rfl));exact HR.out _ rfl rfl
end Go.Proofs.YtaoaifmkhbgaiaaGreat

namespace Go.Proofs.YtaoaifmkhbgaiaaGreat
open Go.RowKit
set_option linter.unusedVariables false
attribute [local go_sem ↓] Go.wp_at_zero Go.wp_at_succ
set_option maxRecDepth 20000 in
set_option maxHeartbeats 3200000 in
theorem pY (x:EX) (H:ExecH x) (op:Int) (hc:op=8∧x.xa=x.xb∨op=8∧x.xa≠x.xb∨op=12∧x.r.h.mode=2∨op=13∧x.r.h.mode=2∧¬2<x.c):rI op x:=by
 obtain ⟨w,v,hb,a,b,c,p,al,cl,plain,pick,r,P,q,s,word,imm,jump,xa,xb,xc,W,pc⟩:=x;obtain ⟨hE,hok,hreg,hpk,h0,hll,hs,hwd,hpa,hpb,hpc,him,hju,hxa,hxb,hxc,hW,hpcc⟩:=H;intro Q X HX HQ K hK C
 intros
 dsimp only at *;simp only [eo,dn,eF,Tryz.f147,Option.getD] at hK ⊢;have k3:=ag hE.hart 3 (show (aD p r.h)[3]?=some (.int .i64 r.h.mode) from rfl);have hbv:hb<v.heap.size:=(Array.getElem?_eq_some_iff.1 hE.hart).1;have HE:Hid (ExecIn w v hb p al cl plain pick r):=hE;have hav:w.heap.size<v.heap.size:=(Array.getElem?_eq_some_iff.1 hE.run).1;have k8:=ag HE.out.hart 8 (show (aD p r.h)[8]?=some (.int .u64 r.h.epc) from rfl);have k9:=ag HE.out.hart 9 (show (aD p r.h)[9]?=some (.int .i64 r.h.emode) from rfl);have hne:hb≠w.heap.size:=by have:=HE.out.hb;omega
 rcases hc with ⟨rfl,hm⟩ | ⟨rfl,hm⟩ | ⟨rfl,hm⟩ | ⟨rfl,hm,hc2⟩;have hX:X=aq r:=by
  rw [←HX.out];unfold fI doM;rw [if_neg (by simp [de]),if_neg (by decide),if_neg (by decide),if_neg (by decide),if_neg (by decide),if_neg (by decide),if_neg (by decide),if_neg (by decide),if_pos rfl,if_pos (by rw [hpa.1,hpb.1];rw [hxa,hxb] at hm;exact hm)];rfl
 obtain ⟨v2,e2,HF⟩:∃v2,v=v2∧Hid (FSq w p al cl r _ v2):=⟨_,rfl,(FSq.of HE.out)⟩;have F2:=HF.out.fin HQ.out (by rw [hX] <;> rfl) (by rw [hX] <;> rfl) (by rw [hX] <;> rfl) (by rw [hX] <;> rfl) (by rw [hX] <;> rfl);clear hX
 rotate_left
 have hX:X=cF (aq r) (gI (aq r).h (IntKind.u64.wrap (pc+jump))):=by
  rw [←HX.out];unfold fI doM;rw [if_neg (by simp [de]),if_neg (by decide),if_neg (by decide),if_neg (by decide),if_neg (by decide),if_neg (by decide),if_neg (by decide),if_neg (by decide),if_pos rfl,if_neg (by rw [hpa.1,hpb.1];rw [hxa,hxb] at hm;exact hm),hju,mE,hpcc];rfl
 obtain ⟨v2,e2,HF⟩:∃v2,(v.setCell ⟨w.heap.size,2,none⟩ (.int .u64 (IntKind.u64.wrap (pc+jump))))=v2∧Hid (FSq w p al cl r _ v2):=⟨_,rfl,((FSq.of HE.out).set 2 (.int .u64 (IntKind.u64.wrap (pc+jump))))⟩;have F2:=HF.out.fin HQ.out (by rw [hX] <;> rfl) (by rw [hX] <;> rfl) (by rw [hX] <;> rfl) (by rw [hX] <;> rfl) (by rw [hX] <;> rfl);clear hX;have c2:=ag HE.out.run 2 (show (aK p al cl plain pick (aq r))[2]?=some _ from rfl);have f2:=aA HE.out.run 2
 rotate_left
 have hX:X=cF (aq r) ⟨r.h.mem,r.h.regs,IntKind.u64.wrap (r.h.epc+jump),r.h.emode,r.h.sum,r.h.mxr,r.h.satp,r.h.tvec,r.h.epc,r.h.emode,r.h.cause,r.h.tval,r.h.k⟩:=by
  rw [←HX.out];unfold fI doM;rw [if_neg (by simp [de,cF,gI,hm]),if_neg (by decide),if_neg (by decide),if_neg (by decide),if_neg (by decide),if_neg (by decide),if_neg (by decide),if_neg (by decide),if_neg (by decide),if_neg (by decide),if_neg (by decide),if_neg (by decide),if_pos rfl,hju,mE];rfl
 rw [hm] at k3;obtain ⟨v2,e2,HF⟩:∃v2,((v.setCell ⟨w.heap.size,2,none⟩ (.int .u64 (IntKind.u64.wrap (r.h.epc+jump)))).setCell ⟨w.heap.size,3,none⟩ (.int .i64 r.h.emode))=v2∧Hid (FSq w p al cl r _ v2):=⟨_,rfl,(((FSq.of HE.out).set 2 (.int .u64 (IntKind.u64.wrap (r.h.epc+jump)))).set 3 (.int .i64 r.h.emode))⟩;have F2:=HF.out.fin HQ.out (by rw [hX] <;> rfl) (by rw [hX] <;> rfl) (by rw [hX] <;> rfl) (by rw [hX] <;> rfl) (by rw [hX] <;> rfl);clear hX;have c2:=ag HE.out.run 2 (show (aK p al cl plain pick (aq r))[2]?=some _ from rfl);have f2:=aA HE.out.run 2;have c3:=ag HE.out.run 3 (show (aK p al cl plain pick (aq r))[3]?=some _ from rfl);have f3:=aA HE.out.run 3
 rotate_left
 have hX:X=cF (aq r) ⟨r.h.mem,r.h.regs,(aq r).h.pc,r.h.mode,r.h.sum,r.h.mxr,r.h.satp,r.h.tvec,xa,(c:Int),r.h.cause,r.h.tval,r.h.k⟩:=by
  rw [←HX.out];unfold fI doM;rw [if_neg (by simp only [de,cF,gI,hm,hpc.1];simp;omega),if_neg (by decide),if_neg (by decide),if_neg (by decide),if_neg (by decide),if_neg (by decide),if_neg (by decide),if_neg (by decide),if_neg (by decide),if_neg (by decide),if_neg (by decide),if_neg (by decide),if_neg (by decide),if_pos rfl,hpc.1,hpa.1,hxa];rfl
 rw [hm] at k3;obtain ⟨v2,e2,HF⟩:∃v2,((v.setCell ⟨w.heap.size,8,none⟩ (.int .u64 xa)).setCell ⟨w.heap.size,9,none⟩ (.int .i64 (c:Nat)))=v2∧Hid (FSq w p al cl r _ v2):=⟨_,rfl,(((FSq.of HE.out).set 8 (.int .u64 xa)).set 9 (.int .i64 (c:Nat)))⟩;have F2:=HF.out.fin HQ.out (by rw [hX] <;> rfl) (by rw [hX] <;> rfl) (by rw [hX] <;> rfl) (by rw [hX] <;> rfl) (by rw [hX] <;> rfl);clear hX;have c8:=ag HE.out.run 8 (show (aK p al cl plain pick (aq r))[8]?=some _ from rfl);have f8:=aA HE.out.run 8;have c9:=ag HE.out.run 9 (show (aK p al cl plain pick (aq r))[9]?=some _ from rfl);have f9:=aA HE.out.run 9
 rotate_left
 all_goals
  obtain ⟨E,u2,HLd,HSr,HR⟩:=F2;clear HF HX hE hok hpa hpb hpc him hju hxa hxb hxc hW hpcc h0 hll hs hwd hpk
 iterate 2
  focus go_upto_region 48 with fail
  rotate_left
 focus go_upto_region 66 with fail
 rotate_left
 focus go_upto_region 70 with fail
 rotate_left
 all_goals
  try rw [e2]
  go_wp2_with (first
   | ((with_reducible refine az ?_ HLd.out ?_);(exact rfl))
   | ((with_reducible refine au ?_ ?_ HSr.out ?_);(exact rfl);(exact rfl)))
  exact HR.out _ rfl rfl
end Go.Proofs.YtaoaifmkhbgaiaaGreat

namespace Go.Proofs.YtaoaifmkhbgaiaaGreat
open Go.RowKit
set_option linter.unusedVariables false
attribute [local go_sem ↓] Go.wp_at_zero Go.wp_at_succ
set_option maxRecDepth 20000 in
set_option maxHeartbeats 3200000 in
theorem yM (x:EX) (H:ExecH x) (hmo:x.r.h.mode≠0):rI 9 x:=by
 obtain ⟨w,v,hb,a,b,c,p,al,cl,plain,pick,r,P,q,s,word,imm,jump,xa,xb,xc,W,pc⟩:=x;obtain ⟨hE,hok,hreg,hpk,h0,hll,hs,hwd,hpa,hpb,hpc,him,hju,hxa,hxb,hxc,hW,hpcc⟩:=H;intro Q X HX HQ K hK C
 intros
 dsimp only at *;simp only [eo,dn,eF,Tryz.f147,Option.getD] at hK ⊢;have k3:=ag hE.hart 3 (show (aD p r.h)[3]?=some (.int .i64 r.h.mode) from rfl);have hbv:hb<v.heap.size:=(Array.getElem?_eq_some_iff.1 hE.hart).1;have HE:Hid (ExecIn w v hb p al cl plain pick r):=hE;have HXu:inU xa:=by rw [hxa];exact hok.h.regs _
 have HX2:Hid (X=if eM xa=true then cF (aq r) ⟨r.h.mem,r.h.regs,(aq r).h.pc,r.h.mode,r.h.sum,r.h.mxr,xa,r.h.tvec,r.h.epc,r.h.emode,r.h.cause,r.h.tval,r.h.k⟩ else aq r):=by
  show _=_;rw [←HX.out];unfold fI doM;rw [if_neg (by simp [de,cF,gI,hmo]),if_neg (by decide),if_neg (by decide),if_neg (by decide),if_neg (by decide),if_neg (by decide),if_neg (by decide),if_neg (by decide),if_neg (by decide),if_pos rfl,hpa.1,hxa];rfl
 generalize r.h.mode=mo at k3 hmo;clear HX hE hok hpa hpb hpc him hju hxa hxb hxc hW hpcc h0 hll hs hwd hpk;go_upto_region 50 with fail;go_wp2_with fail;refine (po xa v HXu.1 HXu.2).mono ?_;rintro e v1 ⟨rfl,nS⟩;have HE2:Hid (ExecIn w v1 hb p al cl plain pick r):=HE.out.keep nS;clear k3 hbv nS HE;have hav:w.heap.size<v1.heap.size:=(Array.getElem?_eq_some_iff.1 HE2.out.run).1;have c6:=ag HE2.out.run 6 (show (aK p al cl plain pick (aq r))[6]?=some _ from rfl);have f6:=aA HE2.out.run 6;have hX:=HX2.out;clear HX2;cases hsc:eM xa;rw [hsc,if_neg (by decide)] at hX;obtain ⟨v2,e2,HF⟩:∃v2,v1=v2∧Hid (FSq w p al cl r _ v2):=⟨_,rfl,(FSq.of HE2.out)⟩
 rotate_left
 rw [hsc,if_pos rfl] at hX;obtain ⟨v2,e2,HF⟩:∃v2,v1.setCell ⟨w.heap.size,6,none⟩ (.int .u64 xa)=v2∧Hid (FSq w p al cl r _ v2):=⟨_,rfl,(FSq.of HE2.out).set 6 (.int .u64 xa)⟩
 rotate_left
 all_goals
  obtain ⟨E,u2,HLd,HSr,HR⟩:=HF.out.fin HQ.out (by rw [hX] <;> rfl) (by rw [hX] <;> rfl) (by rw [hX] <;> rfl) (by rw [hX] <;> rfl) (by rw [hX] <;> rfl);clear hX HF;go_upto_region 52 with fail;try rw [e2]
  go_wp2_with (first
   | ((with_reducible refine az ?_ HLd.out ?_);(exact rfl))
   | ((with_reducible refine au ?_ ?_ HSr.out ?_);(exact rfl);(exact rfl)))
  exact HR.out _ rfl rfl
end Go.Proofs.YtaoaifmkhbgaiaaGreat
