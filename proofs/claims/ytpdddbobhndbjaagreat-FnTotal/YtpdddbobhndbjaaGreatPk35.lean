import Derived.Test.YtpdddbobhndbjaaGreatPk34
namespace Go.Proofs.YtpdddbobhndbjaaGreat
open Go.RowKit
set_option linter.unusedVariables false
set_option maxHeartbeats 6400000
set_option maxRecDepth 20000
section
attribute [local go_sem ↓] Go.wp_at_zero Go.wp_at_succ
def fk (w:World) (p:PtrM) (al:Option Addr) (cl:Nat) (plain:Bool) (pick:Int) (X:RunM):Ending->World->Prop:=fun e w'=>(∃p' al' cl',e=.returned (.agg (aK p' al' cl' plain pick X))∧RunIn w' p' al' cl' X∧From w.heap.size p p'∧FromL w.heap.size al al')∧Bw w w'
theorem AM {w v v2:World} {hb:Nat} {p p':PtrM} {al al':Option Addr} {cl cl':Nat} {plain:Bool} {pick:Int} {r X:RunM} (hE:ExecIn w v hb p al cl plain pick r) (hI:RunIn v2 p' al' cl' X) (hF:From v.heap.size p p') (hL:FromL v.heap.size al al') (hn:Bw v v2) (L:List Value):
 fk w p al cl plain pick X (.returned (.agg (aK p' al' cl' plain pick X))) (v2.setCells (w.heap.size+1) 0 L):=by
 have h1:=(hpl hE.res);have g:=aJ (w.heap.size+1) L 0 v2 v2 (aq v2 _);have n:=bst hE.below hn;refine ⟨⟨p',al',cl',rfl,hI.gb g (fun q hq=>?_) (fun q hq=>?_),fun q hq=>?_,fun q hq=>?_⟩,aS (by omega) L 0 v2 n⟩
 ·rcases hF q hq with h | h
  ·have:=hE.ptrs q h;omega
  ·have h':v.heap.size<=q.block:=h;omega
 ·rcases hL q hq with h | h
  ·have:=hE.looks q h;omega
  ·have h':v.heap.size<=q.block:=h;omega
 ·rcases hF q hq with h | h
  ·exact .inl h
  ·exact .inr (Nat.le_trans (by omega) h)
 ·rcases hL q hq with h | h
  ·exact .inl h
  ·exact .inr (Nat.le_trans (by omega) h)
theorem ExecIn.keep {w v v2:World} {hb:Nat} {p:PtrM} {al:Option Addr} {cl:Nat} {plain:Bool} {pick:Int} {r:RunM} (hE:ExecIn w v hb p al cl plain pick r) (hn:Bw v v2):ExecIn w v2 hb p al cl plain pick r:=
 ⟨ae hE.run hn (hpl hE.run),ae hE.res hn (hpl hE.res),ae hE.hart hn (hpl hE.hart),hE.hb,hE.runIn.keep hn,bst hE.below hn,hE.ptrs,hE.looks⟩
theorem zA {w v v2:World} {hb:Nat} {p:PtrM} {al:Option Addr} {cl:Nat} {plain:Bool} {pick:Int} {r X:RunM} (hE:ExecIn w v hb p al cl plain pick r) (hI:RunIn v2 p al cl X) (hn:Bw w v2) (L:List Value):
 fk w p al cl plain pick X (.returned (.agg (aK p al cl plain pick X))) (v2.setCells (w.heap.size+1) 0 L):=by
 have g:=aJ (w.heap.size+1) L 0 v2 v2 (aq v2 _);refine ⟨⟨p,al,cl,rfl,hI.gb g (fun q hq=>?_) (fun q hq=>?_),fun q hq=>.inl hq,fun q hq=>.inl hq⟩,aS (by omega) L 0 v2 hn⟩
 ·have:=hE.ptrs q hq;omega
 ·have:=hE.looks q hq;omega
theorem lS (x m:Int):IntKind.u64.wrap (x+m%18446744073709551616)=(x+m)%18446744073709551616:=by
 show (x+m%18446744073709551616)%18446744073709551616=_;omega
theorem rM (n:Nat) (al:Option Addr):FromL n al al:=fun q hq=>.inl hq
theorem zB (n:Nat) (p:PtrM):From n p p:=fun q hq=>.inl hq
structure EX where
 w:World
 v:World
 hb:Nat
 a:Nat
 b:Nat
 c:Nat
 p:PtrM
 al:Option Addr
 cl:Nat
 plain:Bool
 pick:Int
 r:RunM
 P:Int
 q:Int
 s:Int
 word:Int
 imm:Int
 jump:Int
 xa:Int
 xb:Int
 xc:Int
 W:Int
 pc:Int
structure ExecH (x:EX):Prop where
 E:ExecIn x.w x.v x.hb x.p x.al x.cl x.plain x.pick x.r
 ok:ROk x.r
 reg:x.r.h.regs.length=8
 pk:0<=x.pick∧x.pick<=255
 c0:x.r.cause=0
 ll:x.r.looks.length<=6
 s:0<=x.s∧x.s<=255
 wd:inU x.word
 pa:x.P%8=x.a∧x.a<8
 pb:x.P/8%8=x.b∧x.b<8
 pq:x.q%8=x.c∧x.c<8
 im:x.imm=gV x.s%18446744073709551616
 ju:x.jump=4*gV x.s%18446744073709551616
 xa:x.xa=fV x.r.h x.a
 xb:x.xb=fV x.r.h x.b
 xc:x.xc=fV x.r.h x.c
 W:x.W=iA ((x.c:Int)%4)
 pc:x.pc=x.r.h.pc
def rN (op:Int) (x:EX):Prop:=∀(Q:Exit->Act->World->Prop) (X:RunM),Hid (fm x.plain x.pick x.r op x.P x.q x.s x.word=X)->Hid (bodyPost Tryz.prog Tryz.f65 (fk x.w x.p x.al x.cl x.plain x.pick X)=Q)->Ag op x.w x.v x.hb x.a x.b x.c x.P x.q x.s x.word x.imm x.jump x.xa x.xb x.xc x.W x.pc Q
theorem kW {w v v2:World} {hb:Nat} {p p':PtrM} {al al':Option Addr} {cl cl':Nat} {plain:Bool} {pick:Int} {r X Y:RunM} {Q:Exit->Act->World->Prop} (hE:ExecIn w v hb p al cl plain pick r) (hI:RunIn v2 p' al' cl' X) (hF:From v.heap.size p p') (hL:FromL v.heap.size al al') (hn:Bw v v2) (hQ:bodyPost Tryz.prog Tryz.f65 (fk w p al cl plain pick Y)=Q) (hY:Y=X):
 ∃u2,Hid ((Instr.storeAt 51 (.pointer (some ⟨w.heap.size+1,0,none⟩)) (.agg (aK p' al' cl' plain pick X))).run Tryz.prog v2=.ok () u2)∧Hid (∀a:Act,a.tmps[12]?=some (.pointer (some ⟨w.heap.size+1,0,none⟩))->a.defers=[]->Q .ret a u2):=by
 have hs:=bx p' al' cl' plain pick X;have k6:=ae hE.res hn (hpl hE.res);have hv:=aT (V:=aK p' al' cl' plain pick X) k6 (by rw [hs,aU]);refine ⟨_,bh (P:=Tryz.prog) (T:=51) k6 (by rw [hs];exact cZ) (by rw [hs,aU]) (dn _ _ _ _ _ _),fun a ha hd=>?_⟩;rw [<-hQ,hY];exact dz (b:=w.heap.size+1) Tryz.results65 ha (bu (P:=Tryz.prog) hv Tryz.underlying51 rfl (by rw [hs];exact cZ)) hd (AM hE hI hF hL hn _)
theorem uw {u:World} {b:Nat} {p:PtrM} {al:Option Addr} {cl:Nat} {plain:Bool} {pick:Int} {r:RunM} (h:u.heap[b]?=some (.cells (aK p al cl plain pick r) 51 (0,0))):Hid ((Instr.loadAt 51 (.pointer (some ⟨b,0,none⟩))).run Tryz.prog u=.ok (.agg (aK p al cl plain pick r)) u):=
 be (P:=Tryz.prog) (T:=51) h Tryz.underlying51 rfl (by rw [bx];exact cZ)
structure FSq (w:World) (p:PtrM) (al:Option Addr) (cl:Nat) (r:RunM) (A:Array Value) (u:World):Prop where
 run:u.heap[w.heap.size]?=some (.cells A 51 (0,0))
 res:u.heap[w.heap.size+1]?=some (.cells ey 51 (0,0))
 rin:RunIn u p al cl (au r)
 below:Bw w u
 ptrs:∀q,some q∈aV p->q.block<w.heap.size
 looks:∀q,al=some q->q.block<w.heap.size
theorem FSq.of {w v:World} {hb:Nat} {p:PtrM} {al:Option Addr} {cl:Nat} {plain:Bool} {pick:Int} {r:RunM} (h:ExecIn w v hb p al cl plain pick r):FSq w p al cl r (aK p al cl plain pick (au r)) v:=⟨h.run,h.res,h.runIn,h.below,h.ptrs,h.looks⟩
theorem FSq.set {w u:World} {p:PtrM} {al:Option Addr} {cl:Nat} {r:RunM} {A:Array Value} (h:FSq w p al cl r A u) (k:Nat) (x:Value):FSq w p al cl r (A.setIfInBounds k x) (u.setCell ⟨w.heap.size,k,none⟩ x):=
 ⟨bt h.run k x,bM h.res k x (by omega),h.rin.gb (ak (aq u (some w.heap.size)) k x) (fun q hq=>by have:=h.ptrs q hq;omega) (fun q hq=>by have:=h.looks q hq;omega),bN h.below nle k x,h.ptrs,h.looks⟩
theorem FSq.step {w u u2:World} {p:PtrM} {al:Option Addr} {cl:Nat} {r:RunM} {A:Array Value} (h:FSq w p al cl r A u) (n:Bw u u2):FSq w p al cl r A u2:=
 ⟨ae h.run n (hpl h.run),ae h.res n (hpl h.res),h.rin.keep n,bst h.below n,h.ptrs,h.looks⟩
theorem vW {u:World} {p:PtrM} {al:Option Addr} {cl:Nat} {r X:RunM} (k:RunIn u p al cl r) (hm:X.h.mem=r.h.mem) (hr:X.h.regs=r.h.regs) (hk:X.h.k=r.h.k) (hl:X.looks=r.looks):RunIn u p al cl X:=by
 obtain ⟨⟨k1,k2,k3,k4,k5,k6,k7⟩,k8,k9,k10,k11,k12⟩:=k;rw [<-hm] at k1 k2;rw [<-hr] at k3 k4 k5;rw [<-hk] at k6;rw [<-hl] at k8 k9 k10 k11;exact ⟨⟨k1,k2,k3,k4,k5,k6,k7⟩,k8,k9,k10,k11,k12⟩
theorem FSq.fin {w u:World} {p:PtrM} {al:Option Addr} {cl:Nat} {plain:Bool} {pick:Int} {r X:RunM} {A:Array Value} {Q:Exit->Act->World->Prop} (h:FSq w p al cl r A u) (hQ:bodyPost Tryz.prog Tryz.f65 (fk w p al cl plain pick X)=Q) (hA:A=aK p al cl plain pick X) (hm:X.h.mem=(au r).h.mem) (hr:X.h.regs=(au r).h.regs) (hk:X.h.k=(au r).h.k) (hl:X.looks=(au r).looks):
 ∃E u2,Hid ((Instr.loadAt 51 (.pointer (some ⟨w.heap.size,0,none⟩))).run Tryz.prog u=.ok (.agg E) u)∧Hid ((Instr.storeAt 51 (.pointer (some ⟨w.heap.size+1,0,none⟩)) (.agg E)).run Tryz.prog u=.ok () u2)∧Hid (∀a:Act,a.tmps[12]?=some (.pointer (some ⟨w.heap.size+1,0,none⟩))->a.defers=[]->Q .ret a u2):=by
 subst hA;have hs:=bx p al cl plain pick X;have hI:=vW (X:=X) h.rin hm hr hk hl;have hv:=aT (V:=aK p al cl plain pick X) h.res (by rw [hs,aU]);refine ⟨_,_,uw h.run,bh (P:=Tryz.prog) (T:=51) h.res (by rw [hs];exact cZ) (by rw [hs,aU]) (dn _ _ _ _ _ _),fun a ha hd=>?_⟩;rw [<-hQ];refine dz (b:=w.heap.size+1) Tryz.results65 ha (bu (P:=Tryz.prog) hv Tryz.underlying51 rfl (by rw [hs];exact cZ)) hd ?_;have g:=aJ (w.heap.size+1) (aK p al cl plain pick X).toList 0 u u (aq u _);refine ⟨⟨p,al,cl,rfl,hI.gb g (fun q hq=>?_) (fun q hq=>?_),fun q hq=>.inl hq,fun q hq=>.inl hq⟩,aS (by omega) _ 0 u h.below⟩
 ·have:=h.ptrs q hq;omega
 ·have:=h.looks q hq;omega
def yy (p:PtrM) (al:Option Addr) (cl:Nat) (plain:Bool) (pick:Int) (X:RunM) (u:World) (e:Ending) (w':World):Prop:=∃p',e=.returned (.agg (aK p' al cl plain pick X))∧RunIn w' p' al cl X∧From u.heap.size p p'∧Bw u w'
theorem AN {p:PtrM} {al:Option Addr} {cl:Nat} {plain:Bool} {pick:Int} {r:RunM} {c t:Int} {u:World} (hu:RunIn u p al cl r):Calls Tryz.prog 62 #[.agg (aK p al cl plain pick r),.int .i64 c,.int .u64 t] u (yy p al cl plain pick (bT r c t) u):=by
 refine (jc p al cl plain pick r c t u).mono ?_;rintro e w' ⟨rfl,n⟩;exact ⟨p,rfl,vW (hu.keep n) rfl rfl rfl rfl,zB _ _,n⟩
theorem Co {p:PtrM} {al:Option Addr} {cl:Nat} {plain:Bool} {pick:Int} {r:RunM} {a:Nat} {V:Int} {u:World} (hu:RunIn u p al cl r) (h8:r.h.regs.length=8) (ha:a<8):Calls Tryz.prog 88 #[.agg (aK p al cl plain pick r),.int .i64 (a:Nat),.int .u64 V] u (yy p al cl plain pick (ct r a V) u):=by
 refine (iJ p al cl plain pick r a V u hu (by omega) (by omega) (by omega)).mono ?_;rintro e w' ⟨⟨p',rfl,h1,h2⟩,n⟩;exact ⟨p',rfl,h1,h2,n⟩
theorem exq {R:Ending->World->Prop} {Q:Exit->Act->World->Prop} {f:Func} (h:bodyPost Tryz.prog f R=Q):Hid (∀x (a:Act) d z w,Q (.panic x) (a.put d z) w->Q (.panic x) a w):=by
 show ∀x (a:Act) d z w,Q (.panic x) (a.put d z) w->Q (.panic x) a w;rw [<-h];exact fun _ _ d _ _ h=>by cases d <;> exact h
end
section
attribute [local go_sem ↓] Go.wp_at_zero Go.wp_at_succ
theorem eZ (x:EX) (H:ExecH x) (op:Int) (hc:op=1∨op=2∨op=3∨(op=9∨op=10∨op=11)∧x.r.h.mode=0∨(op=12∨op=13)∧x.r.h.mode≠2∨op=13∧x.r.h.mode=2∧2<x.c∨op=14∨op=0∨15<=op∧op<=255):rN op x:=by
 obtain ⟨w,v,hb,a,b,c,p,al,cl,plain,pick,r,P,q,s,word,imm,jump,xa,xb,xc,W,pc⟩:=x;obtain ⟨hE,hok,hreg,hpk,h0,hll,hs,hwd,hpa,hpb,hpc,him,hju,hxa,hxb,hxc,hW,hpcc⟩:=H;intro Q X HX HQ K hK C
 intros
 dsimp only at *;simp only [dO,cW,eB,Tryz.f65,Option.getD] at hK |-;have k3:=ab hE.hart 3 (show (ax p r.h)[3]?=some (.int .i64 r.h.mode) from rfl);have hbv:=(hpl hE.hart);have HE:=hid hE;have hmo:=hok.h.v.mode;have HT:Hid (∀c t,X=bT (au r) c t->∀u,RunIn u p al cl (au r)->Calls Tryz.prog 62 #[.agg (aK p al cl plain pick (au r)),.int .i64 c,.int .u64 t] u (yy p al cl plain pick X u)):=fun c t h u hu=>by rw [h];exact AN hu
 have HS:Hid (∀V,X=ct (au r) a V->∀u,RunIn u p al cl (au r)->Calls Tryz.prog 88 #[.agg (aK p al cl plain pick (au r)),.int .i64 (a:Nat),.int .u64 V] u (yy p al cl plain pick X u)):=fun V h u hu=>by rw [h];exact Co hu hreg hpa.2
 have HLd:=uw hE.run;replace HX:=HX.out;unfold fm doM at HX;rcases hc with rfl | rfl | rfl | ⟨rfl | rfl | rfl,hm⟩ | ⟨rfl | rfl,hm⟩ | ⟨rfl,hm,hc2⟩ | rfl | rfl | ⟨hb1,hb2⟩;have HC:Hid _:=HS.out imm (by rw [<-HX,if_neg (by simp [bU]),if_pos rfl,him,<-hpa.1];rfl)
 rotate_left
 have HC:Hid _:=HS.out (IntKind.u64.wrap (xb+xc)) (by rw [<-HX,if_neg (by simp [bU]),if_neg (by decide),if_pos rfl,hxb,hxc,<-hpb.1,<-hpc.1,<-hpa.1];rfl)
 rotate_left
 have HC:Hid _:=HS.out (IntKind.u64.wrap (xb+imm)) (by rw [<-HX,if_neg (by simp [bU]),if_neg (by decide),if_neg (by decide),if_pos rfl,hxb,him,<-hpb.1,lS,<-hpa.1];rfl)
 rotate_left
 iterate 3
  have HC:Hid _:=HT.out 2 word (by rw [<-HX,if_pos (by simp [bU,bE,ex,hm])];rfl);rw [hm] at k3
  rotate_left
 iterate 2
  have HC:Hid _:=HT.out 2 word (by rw [<-HX,if_pos (by simp [bU,bE,ex,hm])];rfl);generalize r.h.mode=mo at k3 hm
  rotate_left
 have HC:Hid _:=HT.out 2 word (by rw [<-HX,if_pos (by simp only [bU,bE,ex,hm,hpc.1];simp;omega)];rfl);rw [hm] at k3
 rotate_left
 have HC:Hid _:=HT.out (8+r.h.mode) 0 (by rw [<-HX,if_neg (by simp [bU]),if_neg (by decide),if_neg (by decide),if_neg (by decide),if_neg (by decide),if_neg (by decide),if_neg (by decide),if_neg (by decide),if_neg (by decide),if_neg (by decide),if_neg (by decide),if_neg (by decide),if_neg (by decide),if_neg (by decide),if_pos rfl];rfl);obtain ⟨hm1,hm2⟩:=hmo
 rotate_left
 have HC:Hid _:=HT.out 2 word (by rw [<-HX,if_neg (by simp [bU]),if_neg (by decide),if_neg (by decide),if_neg (by decide),if_neg (by decide),if_neg (by decide),if_neg (by decide),if_neg (by decide),if_neg (by decide),if_neg (by decide),if_neg (by decide),if_neg (by decide),if_neg (by decide),if_neg (by decide),if_neg (by decide)];rfl)
 rotate_left
 have HC:Hid _:=HT.out 2 word (by rw [<-HX,if_neg (by simp only [bU];simp;omega),if_neg (by omega),if_neg (by omega),if_neg (by omega),if_neg (by omega),if_neg (by omega),if_neg (by omega),if_neg (by omega),if_neg (by omega),if_neg (by omega),if_neg (by omega),if_neg (by omega),if_neg (by omega),if_neg (by omega),if_neg (by omega)];rfl)
 rotate_left
 all_goals
  clear HT HS HX hE hok hpa hpb hpc him hju hxa hxb hxc hW hpcc h0 hll hs hwd hpk;generalize aK p al cl plain pick (au r)=D at HC HLd
 focus go_upto_region 21 with fail
 rotate_left
 focus go_upto_region 23 with fail
 rotate_left
 focus go_upto_region 25 with fail
 rotate_left
 iterate 6
  focus go_upto_region 18 with fail
  rotate_left
 focus go_upto_region 72 with fail
 rotate_left
 focus go_upto_region 73 with fail
 rotate_left
 focus go_upto_region 73 with fail
 rotate_left
 all_goals
  as_aux_lemma=>
   go_wp2_with ((with_reducible refine aZ ?_ HLd.out ?_);(exact rfl));refine (HC.out v HE.out.runIn).mono ?_;rintro e v2 ⟨p',rfl,hI2,hF2,n2⟩;obtain ⟨u2,HSr,HR⟩:=kW HE.out hI2 hF2 (rM _ _) n2 HQ.out rfl;generalize aK p' al cl plain pick X=E at HSr |-;go_wp2_with ((with_reducible refine aG ?_ ?_ HSr.out ?_);(exact rfl);(exact rfl));exact HR.out _ rfl rfl
end
section
attribute [local go_sem ↓] Go.wp_at_zero Go.wp_at_succ
theorem pA (x:EX) (H:ExecH x) (op:Int) (hc:op=8∧x.xa=x.xb∨op=8∧x.xa≠x.xb∨op=12∧x.r.h.mode=2∨op=13∧x.r.h.mode=2∧¬2<x.c):rN op x:=by
 obtain ⟨w,v,hb,a,b,c,p,al,cl,plain,pick,r,P,q,s,word,imm,jump,xa,xb,xc,W,pc⟩:=x;obtain ⟨hE,hok,hreg,hpk,h0,hll,hs,hwd,hpa,hpb,hpc,him,hju,hxa,hxb,hxc,hW,hpcc⟩:=H;intro Q X HX HQ K hK C
 intros
 dsimp only at *;simp only [dO,cW,eB,Tryz.f65,Option.getD] at hK |-;have k3:=ab hE.hart 3 (show (ax p r.h)[3]?=some (.int .i64 r.h.mode) from rfl);have hbv:=(hpl hE.hart);have HE:=hid hE;have hav:=(hpl hE.run);have k8:=ab HE.out.hart 8 (show (ax p r.h)[8]?=some (.int .u64 r.h.epc) from rfl);have k9:=ab HE.out.hart 9 (show (ax p r.h)[9]?=some (.int .i64 r.h.emode) from rfl);have hne:hb≠w.heap.size:=by have:=HE.out.hb;omega
 rcases hc with ⟨rfl,hm⟩ | ⟨rfl,hm⟩ | ⟨rfl,hm⟩ | ⟨rfl,hm,hc2⟩;have hX:X=au r:=by
  rw [<-HX.out];unfold fm doM;rw [if_neg (by simp [bU]),if_neg (by decide),if_neg (by decide),if_neg (by decide),if_neg (by decide),if_neg (by decide),if_neg (by decide),if_neg (by decide),if_pos rfl,if_pos (by rw [hpa.1,hpb.1];rw [hxa,hxb] at hm;exact hm)];rfl
 obtain ⟨v2,e2,HF⟩:∃v2,v=v2∧Hid (FSq w p al cl r _ v2):=⟨_,rfl,(FSq.of HE.out)⟩;have F2:=HF.out.fin HQ.out (by rw [hX] <;> rfl) (by rw [hX] <;> rfl) (by rw [hX] <;> rfl) (by rw [hX] <;> rfl) (by rw [hX] <;> rfl);clear hX
 rotate_left
 have hX:X=bE (au r) (ex (au r).h (IntKind.u64.wrap (pc+jump))):=by
  rw [<-HX.out];unfold fm doM;rw [if_neg (by simp [bU]),if_neg (by decide),if_neg (by decide),if_neg (by decide),if_neg (by decide),if_neg (by decide),if_neg (by decide),if_neg (by decide),if_pos rfl,if_neg (by rw [hpa.1,hpb.1];rw [hxa,hxb] at hm;exact hm),hju,lS,hpcc];rfl
 obtain ⟨v2,e2,HF⟩:∃v2,(v.setCell ⟨w.heap.size,2,none⟩ (.int .u64 (IntKind.u64.wrap (pc+jump))))=v2∧Hid (FSq w p al cl r _ v2):=⟨_,rfl,((FSq.of HE.out).set 2 (.int .u64 (IntKind.u64.wrap (pc+jump))))⟩;have F2:=HF.out.fin HQ.out (by rw [hX] <;> rfl) (by rw [hX] <;> rfl) (by rw [hX] <;> rfl) (by rw [hX] <;> rfl) (by rw [hX] <;> rfl);clear hX;have c2:=ab HE.out.run 2 (show (aK p al cl plain pick (au r))[2]?=some _ from rfl);have f2:=ay HE.out.run 2
 rotate_left
 have hX:X=bE (au r) ⟨r.h.mem,r.h.regs,IntKind.u64.wrap (r.h.epc+jump),r.h.emode,r.h.sum,r.h.mxr,r.h.satp,r.h.tvec,r.h.epc,r.h.emode,r.h.cause,r.h.tval,r.h.k⟩:=by
  rw [<-HX.out];unfold fm doM;rw [if_neg (by simp [bU,bE,ex,hm]),if_neg (by decide),if_neg (by decide),if_neg (by decide),if_neg (by decide),if_neg (by decide),if_neg (by decide),if_neg (by decide),if_neg (by decide),if_neg (by decide),if_neg (by decide),if_neg (by decide),if_pos rfl,hju,lS];rfl
 rw [hm] at k3;obtain ⟨v2,e2,HF⟩:∃v2,((v.setCell ⟨w.heap.size,2,none⟩ (.int .u64 (IntKind.u64.wrap (r.h.epc+jump)))).setCell ⟨w.heap.size,3,none⟩ (.int .i64 r.h.emode))=v2∧Hid (FSq w p al cl r _ v2):=⟨_,rfl,(((FSq.of HE.out).set 2 (.int .u64 (IntKind.u64.wrap (r.h.epc+jump)))).set 3 (.int .i64 r.h.emode))⟩;have F2:=HF.out.fin HQ.out (by rw [hX] <;> rfl) (by rw [hX] <;> rfl) (by rw [hX] <;> rfl) (by rw [hX] <;> rfl) (by rw [hX] <;> rfl);clear hX;have c2:=ab HE.out.run 2 (show (aK p al cl plain pick (au r))[2]?=some _ from rfl);have f2:=ay HE.out.run 2;have c3:=ab HE.out.run 3 (show (aK p al cl plain pick (au r))[3]?=some _ from rfl);have f3:=ay HE.out.run 3
 rotate_left
 have hX:X=bE (au r) ⟨r.h.mem,r.h.regs,(au r).h.pc,r.h.mode,r.h.sum,r.h.mxr,r.h.satp,r.h.tvec,xa,(c:Int),r.h.cause,r.h.tval,r.h.k⟩:=by
  rw [<-HX.out];unfold fm doM;rw [if_neg (by simp only [bU,bE,ex,hm,hpc.1];simp;omega),if_neg (by decide),if_neg (by decide),if_neg (by decide),if_neg (by decide),if_neg (by decide),if_neg (by decide),if_neg (by decide),if_neg (by decide),if_neg (by decide),if_neg (by decide),if_neg (by decide),if_neg (by decide),if_pos rfl,hpc.1,hpa.1,hxa];rfl
 rw [hm] at k3;obtain ⟨v2,e2,HF⟩:∃v2,((v.setCell ⟨w.heap.size,8,none⟩ (.int .u64 xa)).setCell ⟨w.heap.size,9,none⟩ (.int .i64 (c:Nat)))=v2∧Hid (FSq w p al cl r _ v2):=⟨_,rfl,(((FSq.of HE.out).set 8 (.int .u64 xa)).set 9 (.int .i64 (c:Nat)))⟩;have F2:=HF.out.fin HQ.out (by rw [hX] <;> rfl) (by rw [hX] <;> rfl) (by rw [hX] <;> rfl) (by rw [hX] <;> rfl) (by rw [hX] <;> rfl);clear hX;have c8:=ab HE.out.run 8 (show (aK p al cl plain pick (au r))[8]?=some _ from rfl);have f8:=ay HE.out.run 8;have c9:=ab HE.out.run 9 (show (aK p al cl plain pick (au r))[9]?=some _ from rfl);have f9:=ay HE.out.run 9
 rotate_left
 all_goals
  obtain ⟨E,u2,HLd,HSr,HR⟩:=F2;clear HF HX hE hok hpa hpb hpc him hju hxa hxb hxc hW hpcc h0 hll hs hwd hpk
 iterate 2
  focus go_upto_region 48 with fail
  rotate_left
 focus go_upto_region 66 with fail
 rotate_left
 focus go_upto_region 70 with fail
 rotate_left
 all_goals
  try rw [e2]
  go_wp2_with (first
   | ((with_reducible refine aZ ?_ HLd.out ?_);(exact rfl))
   | ((with_reducible refine aG ?_ ?_ HSr.out ?_);(exact rfl);(exact rfl)))
  exact HR.out _ rfl rfl
end
section
attribute [local go_sem ↓] Go.wp_at_zero Go.wp_at_succ
theorem zP (x:EX) (H:ExecH x) (hmo:x.r.h.mode≠0):rN 9 x:=by
 obtain ⟨w,v,hb,a,b,c,p,al,cl,plain,pick,r,P,q,s,word,imm,jump,xa,xb,xc,W,pc⟩:=x;obtain ⟨hE,hok,hreg,hpk,h0,hll,hs,hwd,hpa,hpb,hpc,him,hju,hxa,hxb,hxc,hW,hpcc⟩:=H;intro Q X HX HQ K hK C
 intros
 dsimp only at *;simp only [dO,cW,eB,Tryz.f65,Option.getD] at hK |-;have k3:=ab hE.hart 3 (show (ax p r.h)[3]?=some (.int .i64 r.h.mode) from rfl);have hbv:=(hpl hE.hart);have HE:=hid hE;have HXu:inU xa:=by rw [hxa];exact hok.h.regs _
 have HX2:Hid (X=if de xa=true then bE (au r) ⟨r.h.mem,r.h.regs,(au r).h.pc,r.h.mode,r.h.sum,r.h.mxr,xa,r.h.tvec,r.h.epc,r.h.emode,r.h.cause,r.h.tval,r.h.k⟩ else au r):=by
  show _=_;rw [<-HX.out];unfold fm doM;rw [if_neg (by simp [bU,bE,ex,hmo]),if_neg (by decide),if_neg (by decide),if_neg (by decide),if_neg (by decide),if_neg (by decide),if_neg (by decide),if_neg (by decide),if_neg (by decide),if_pos rfl,hpa.1,hxa];rfl
 generalize r.h.mode=mo at k3 hmo;clear HX hE hok hpa hpb hpc him hju hxa hxb hxc hW hpcc h0 hll hs hwd hpk;go_upto_region 50 with fail;go_wp2_with fail;refine (oG xa v HXu.1 HXu.2).mono ?_;rintro e v1 ⟨rfl,nS⟩;have HE2:=hid (HE.out.keep nS);clear k3 hbv nS HE;have hav:=(hpl HE2.out.run);have c6:=ab HE2.out.run 6 (show (aK p al cl plain pick (au r))[6]?=some _ from rfl);have f6:=ay HE2.out.run 6;have hX:=HX2.out;clear HX2;cases hsc:de xa;rw [hsc,if_neg (by decide)] at hX;obtain ⟨v2,e2,HF⟩:∃v2,v1=v2∧Hid (FSq w p al cl r _ v2):=⟨_,rfl,(FSq.of HE2.out)⟩
 rotate_left
 rw [hsc,if_pos rfl] at hX;obtain ⟨v2,e2,HF⟩:∃v2,v1.setCell ⟨w.heap.size,6,none⟩ (.int .u64 xa)=v2∧Hid (FSq w p al cl r _ v2):=⟨_,rfl,(FSq.of HE2.out).set 6 (.int .u64 xa)⟩
 rotate_left
 all_goals
  obtain ⟨E,u2,HLd,HSr,HR⟩:=HF.out.fin HQ.out (by rw [hX] <;> rfl) (by rw [hX] <;> rfl) (by rw [hX] <;> rfl) (by rw [hX] <;> rfl) (by rw [hX] <;> rfl);clear hX HF;go_upto_region 52 with fail;try rw [e2]
  go_wp2_with (first
   | ((with_reducible refine aZ ?_ HLd.out ?_);(exact rfl))
   | ((with_reducible refine aG ?_ ?_ HSr.out ?_);(exact rfl);(exact rfl)))
  exact HR.out _ rfl rfl
end
section
attribute [local go_sem ↓] Go.wp_at_zero Go.wp_at_succ
theorem BE (x:EX) (H:ExecH x):rN 4 x:=by
 obtain ⟨w,v,hb,a,b,c,p,al,cl,plain,pick,r,P,q,s,word,imm,jump,xa,xb,xc,W,pc⟩:=x;obtain ⟨hE,hok,hreg,hpk,h0,hll,hs,hwd,hpa,hpb,hpc,him,hju,hxa,hxb,hxc,hW,hpcc⟩:=H;intro Q X HX0 HQ K hK C
 intros
 dsimp only at *;simp only [dO,cW,eB,Tryz.f65,Option.getD] at hK |-;have HE:=hid hE;have HQp:=exq HQ.out;have HX:Hid (fm plain pick r 4 P q s word=(ct (au r) (a:Int) (IntKind.u64.wrap (xb*iA (s%64))))):=by
  show _=_;unfold fm doM;rw [if_neg (by simp [bU]),if_neg (by decide),if_neg (by decide),if_neg (by decide),if_pos rfl,hxb,<-hpb.1,<-hpa.1];rfl
 have hX:=HX0.out;have HX':Hid (X=(ct (au r) (a:Int) (IntKind.u64.wrap (xb*iA (s%64))))):=by show _=_;rw [<-hX];exact HX.out
 clear HX0;have ha8:=hpa.2;obtain ⟨hs1,hs2⟩:=hs;have HTm:Hid (s.tmod 64=s%64):=Int.tmod_eq_emod_of_nonneg hs1;clear hX HX hE hok hpa hpb hpc him hju hxa hxb hxc hW hpcc h0 hll;have HSR:=hid fun u (hu:RunIn u p al cl (au r))=>iJ p al cl plain pick (au r) a (IntKind.u64.wrap (xb*iA (s%64))) u hu (by omega) (by show (a:Int).toNat<r.h.regs.length;omega) (by show r.h.regs.length<=_;omega);have hRs:=bx p al cl plain pick (au r);have HLr:=hid fun (u:World) (hu:u.heap[w.heap.size]?=some (.cells (aK p al cl plain pick (au r)) 51 (0,0)))=>be (P:=Tryz.prog) (T:=51) hu Tryz.underlying51 rfl (by rw [hRs];exact cZ);have HRv:=hid HE.out.run;generalize aK p al cl plain pick (au r)=D at HSR hRs HLr HRv;go_upto_region 27 with fail;have hF:=HRv.out;refine aN (fun u=>u.heap[w.heap.size]?=some (.cells D 51 (0,0))) 8 (by kernel_rfl) ?_;refine lj 0 141 (.agg D) rfl hF ?_ (hQ:=fun _ _ _ h=>HQp.out _ _ _ _ _ h) (hy:=fun u hu=>aX rfl (HLr.out u hu));refine lj 1 142 (.int .i64 (a:Nat)) rfl hF ?_ (hQ:=fun _ _ _ h=>HQp.out _ _ _ _ _ h);refine lj 2 143 (.int .u64 xb) rfl hF ?_ (hQ:=fun _ _ _ h=>HQp.out _ _ _ _ _ h);refine lj 3 144 (.int .i64 s) rfl hF ?_ (hQ:=fun _ _ _ h=>HQp.out _ _ _ _ _ h);simp only [aPt,sTa,sCs,sCz];refine lj 4 145 (.int .i64 (s%64)) rfl hF ?_ (hQ:=fun _ _ _ h=>HQp.out _ _ _ _ _ h) (hy:=fun u hu=>(by have h1:=HTm.out;go_simp));simp only [aPt,sTa,sCs,sCz];refine uB 5 146 rfl (f:=57) (args:=#[.int .i64 (s%64)]) ?_;refine (bV (s%64) (iA (s%64)) v.drew (by omega) rfl).mono ?_;rintro e v1 ⟨rfl,rfl⟩;refine ⟨_,rfl,fun _=>hF,?_⟩;simp only [aPt,sTa,sCs,sCz];refine lj 6 147 (.int .u64 (IntKind.u64.wrap (xb*iA (s%64)))) rfl hF ?_ (hQ:=fun _ _ _ h=>HQp.out _ _ _ _ _ h);simp only [aPt,sTa,sCs,sCz];refine uB 7 148 rfl (f:=88) (args:=#[.agg D,.int .i64 (a:Nat),.int .u64 (IntKind.u64.wrap (xb*iA (s%64)))]) ?_;refine (HSR.out v.drew (HE.out.runIn.keep ((Below.refl _ _).drew))).mono ?_;rintro e v2 ⟨⟨p',rfl,hI2,hF2⟩,n2'⟩;have n2:Bw v v2:=bst ((Below.refl _ _).drew) n2';refine ⟨_,rfl,fun _=>ae HRv.out n2 (hpl HRv.out),?_⟩;simp only [aPt,sTa,sCs,sCz];obtain ⟨u2,HSr,HR⟩:=kW HE.out hI2 hF2 (rM _ _) n2 HQ.out HX'.out;generalize aK p' al cl plain pick (ct (au r) (a:Int) (IntKind.u64.wrap (xb*iA (s%64))))=E at HSr |-;refine bI 8 rfl (T:=51) (x:=.tmp 12) (y:=.tmp 148) (by kernel_rfl) (by kernel_rfl) (by kernel_rfl) (by kernel_rfl) (b:=w.heap.size+1) (off:=0) (by kernel_rfl) (by kernel_rfl) HSr.out (.inl (by kernel_rfl)) ?_;refine bJ (by kernel_rfl) ?_ _;go_wp2_with fail;exact HR.out _ rfl rfl
end
end Go.Proofs.YtpdddbobhndbjaaGreat
