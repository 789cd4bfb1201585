import Derived.Test.YtkenjknmfhoppaaGreatSk10
import Derived.Deep.DeepCutAuto
import Derived.Deep.AppendLies
import Derived.Deep.CutRange
namespace Go.Proofs.YtkenjknmfhoppaaGreat
open Go.RowKit
set_option linter.unusedVariables false
set_option maxHeartbeats 6400000
set_option maxRecDepth 20000
def FO (h:Int):Int:=wrap64 (wrap64 (h*6364136223846793005)+1442695040888963407)
def Ej (h:Int):Int:=bits BinOp.and IntKind.i64 (bits BinOp.xor IntKind.i64 (h/8589934592) (h/35184372088832)) 255
def hAt (h0:Int):Nat->Int
 | 0=>h0
 | k+1=>FO (hAt h0 k)
def rt (code:List Int) (h0:Int) (k:Nat):Int:=
 if k<code.length then bits BinOp.and IntKind.i64 (Ej (hAt h0 (k+1))+code[k]?.getD 0) 255 else Ej (hAt h0 (k+1))
theorem Ek (code:List Int) (h0:Int) (k:Nat):0<=rt code h0 k∧rt code h0 k<=255:=by
 unfold rt;split
 ·exact kJ _ 255 (by omega) (by omega)
 ·exact kJ _ 255 (by omega) (by omega)
def CurN (w:World) (p:Nat) (f:Nat->Int) (k:Nat):Prop:=
 ∃(a:Option Addr) (len cap:Nat) (code:List Int) (h0:Int),f=rt code h0∧w.heap[p]?=some (.cells #[.slice a len cap,VI ((min k len:Nat):Int),VI (hAt h0 k)] 191 (0,0))∧Byt w a len code∧(0<len->∀x,a=some x->x.block<p)∧len<=1048576
def DrewN (w:World) (p:Nat) (f:Nat->Int) (k:Nat) (w':World):Prop:=CurN w' p f k∧w.grownBy w' (some p)
theorem CurN.bd {w:World} {p:Nat} {f:Nat->Int} {k:Nat} (h:CurN w p f k) (j:Nat):0<=f j∧f j<=255:=by
 obtain ⟨_,_,_,code,h0,rfl,_⟩:=h;exact Ek code h0 j
theorem CurN.lt {w:World} {p:Nat} {f:Nat->Int} {k:Nat} (h:CurN w p f k):p<w.heap.size:=by
 obtain ⟨_,_,_,_,_,_,hh,_⟩:=h;exact (Array.getElem?_eq_some_iff.1 hh).1
theorem CurN.below {B:Nat} {w v:World} {p:Nat} {f:Nat->Int} {k:Nat} (h:CurN w p f k) (hb:Below B w v) (hp:p<B):CurN v p f k:=by
 obtain ⟨a,len,cap,code,h0,hf,hh,⟨h1,h2,h3⟩,hlt,hl⟩:=h;refine ⟨a,len,cap,code,h0,hf,by rw [hb.block p hp];exact hh,⟨h1,h2,?_⟩,hlt,hl⟩;by_cases h0:len=0
 ·exact .inl h0
 rcases h3 with h3 | ⟨b,off,rfl,hbw,hc⟩
 ·exact .inl h3
 ·have hbp:b<p:=hlt (by omega) (AD b off) rfl;exact .inr ⟨b,off,rfl,ltl hbw hb.size,fun j hj=>(hb.cell (p:=⟨b,off+j,none⟩) (Nat.lt_trans hbp hp)).trans (hc j hj)⟩
theorem DrewN.trans {w v u:World} {p:Nat} {f:Nat->Int} {k k':Nat} (h:DrewN w p f k v) (h':DrewN v p f k' u):DrewN w p f k' u:=⟨h'.1,oD h.2 h'.2⟩
theorem DrewN.below {w v u:World} {p:Nat} {f:Nat->Int} {k:Nat} (h:DrewN w p f k v) (hb:Below w.heap.size v u) (hp:p<w.heap.size):DrewN w p f k u:=
 ⟨h.1.below hb hp,⟨hb.os.trans h.2.os,hb.tape.trans h.2.tape,hb.output.trans h.2.output,Nat.le_trans h.2.size hb.size,fun i hi hn=>(hb.block i hi).trans (h.2.block i hi hn)⟩⟩
theorem DrewN.refl {w:World} {p:Nat} {f:Nat->Int} {k:Nat} (h:CurN w p f k):DrewN w p f k w:=⟨h,aw _ _⟩
theorem Bb {w v:World} {p:Nat} {a:Option Addr} {len cap:Nat} {code:List Int} {k:Nat} {h0:Int} {o:Obj}
 (hh:w.heap[p]?=some o) (hb:Byt w a len code) (hlt:0<len->∀x,a=some x->x.block<p) (hl:len<=1048576)
 (hv:v.heap[p]?=some (.cells #[.slice a len cap,VI ((min (k+1) len:Nat):Int),VI (hAt h0 (k+1))] 191 (0,0))) (hg:w.grownBy v (some p)):DrewN w p (rt code h0) (k+1) v:=by
 refine ⟨⟨a,len,cap,code,h0,rfl,hv,?_,hlt,hl⟩,hg⟩;obtain ⟨h1,h2,h3⟩:=hb;refine ⟨h1,h2,?_⟩;by_cases h0:len=0
 ·exact .inl h0
 rcases h3 with h3 | ⟨b,off,rfl,hbw,hc⟩
 ·exact .inl h3
 ·have hbp:b<p:=hlt (by omega) (AD b off) rfl;refine .inr ⟨b,off,rfl,ltl hbw hg.size,fun j hj=>?_⟩;rw [<-hc j hj];unfold World.cell?;rw [hg.block b hbw (by simp;omega)]
theorem jy (p:Nat) (f:Nat->Int) (k:Nat) (w:World) (h:CurN w p f k):
 Calls Tryz.prog 68 #[PT p 0] w fun e w'=>e=.returned (VI (f k))∧DrewN w p f (k+1) w':=by
 obtain ⟨a,len,cap,code,h0,rfl,hh,hb,hlt,hl⟩:=h;have c0:w.cell? (AD p 0)=some (.slice a len cap):=by simp [World.cell?,hh]
 have c1:w.cell? (AD p 1)=some (VI ((min k len:Nat):Int)):=by simp [World.cell?,hh]
 have c2:w.cell? (AD p 2)=some (VI (hAt h0 k)):=by simp [World.cell?,hh]
 have f1:w.frozen? (AD p 1)=false:=by simp [World.frozen?,hh]
 have f2:w.frozen? (AD p 2)=false:=by simp [World.frozen?,hh]
 have hlen:=hb.1;obtain ⟨i,hi⟩:∃i,min k len=i:=⟨_,rfl⟩;rw [hi] at c1 hh;obtain ⟨X,hX⟩:∃X,rt code h0 k=X:=⟨_,rfl⟩;rw [hX];have HS:Hid (∀(v:World) (i':Nat) (h':Int),i'=min (k+1) len->h'=hAt h0 (k+1)->v.heap[p]?=some (.cells #[.slice a len cap,VI i',VI h'] 191 (0,0))->w.grownBy v (some p)->DrewN w p (rt code h0) (k+1) v):=
  fun v i' h' hi' hh' hv hg=>Bb hh hb hlt hl (by subst hi' hh';exact hv) hg
 have HH:Hid _:=hh;obtain ⟨h',hh'⟩:∃h',wrap64 (wrap64 (hAt h0 k*6364136223846793005)+1442695040888963407)=h':=⟨_,rfl⟩;have HK:Hid (h'=hAt h0 (k+1)):=hh'.symm;by_cases hil:i<len
 ·rcases hb.2.2 with h3 | ⟨b,off,rfl,hbw,hc⟩
  ·omega
  have g1:=hc i hil;have g2:=hb.2.1 i;have hbp:b<p:=hlt (by omega) (AD b off) rfl;obtain ⟨z,hz⟩:∃z,z=code[i]?.getD 0:=⟨_,rfl⟩;rw [<-hz] at g1 g2;have hbp':b≠p:=by omega
  have hik:i=k:=by omega
  have HX:Hid (bits BinOp.and IntKind.i64 (bits BinOp.and IntKind.i64 (bits BinOp.xor IntKind.i64 (h'/8589934592) (h'/35184372088832)) 255+z) 255=X):=by
   show _=_;rw [<-hX,rt,if_pos (by omega),Ej,<-HK.out,hz,hik]
  have HI:Hid (i+1=min (k+1) len):=by show _=_;omega
  clear hc hz hlt hb hh hX hik hi;generalize hAt h0 k=hk at *;go_enter Tryz.func68,Tryz.ntmps68;go_wp2_with fail;rw [hh'];go_quiet (fail);rename Nat=>nq';have hx:=kJ (bits BinOp.xor IntKind.i64 (h'/8589934592) (h'/35184372088832)) 255 (by omega) (by omega);generalize bits BinOp.and IntKind.i64 (bits BinOp.xor IntKind.i64 (h'/8589934592) (h'/35184372088832)) 255=x0 at hx HX |-;generalize bits BinOp.xor IntKind.i64 (h'/8589934592) (h'/35184372088832)=y0;go_wp2;go_quiet (fail);rename Nat=>nq'';go_wp2;go_quiet (fail);rw [HX.out];go_wp2;go_ret;have hg:=aq (lN (aq (aw w (some p)) 2 (VI h')) (nq'+nq''+nq)) 1 (VI ((i:Int)+1));exact ⟨rfl,HS.out _ (i+1) h' HI.out HK.out (Gk (v:=(w.setCell (AD p 2) (VI h')).drewN (nq'+nq''+nq)) (FL HH.out)) hg⟩
 ·have HX:Hid (bits BinOp.and IntKind.i64 (bits BinOp.xor IntKind.i64 (h'/8589934592) (h'/35184372088832)) 255=X):=by
   show _=_;rw [<-hX,rt,if_neg (by omega),Ej,<-HK.out]
  have HI:Hid (i=min (k+1) len):=by show _=_;omega
  clear hlt hb hh hX hi;generalize hAt h0 k=hk at *;go_enter Tryz.func68,Tryz.ntmps68;go_wp2_with fail;rw [hh'];go_quiet (fail);rename Nat=>nq';rw [HX.out];generalize bits BinOp.xor IntKind.i64 (h'/8589934592) (h'/35184372088832)=y0;go_wp2;go_quiet (fail);go_wp2;go_ret;have hg:=lN (lN (aq (aw w (some p)) 2 (VI h')) nq') nq;exact ⟨rfl,HS.out _ i h' HI.out HK.out (FL HH.out) hg⟩
def bT (f:Nat->Int) (n:Int) (k:Nat):Int × Nat:=if n<=256 then (f k%n,k+1) else ((f k*65536+f (k+1)*256+f (k+2))%n,k+3)
def eu (f:Nat->Int) (n:Int) (k:Nat):Bool × Nat:=((bT f n k).1 == 0,(bT f n k).2)
def ux (f:Nat->Int):Nat->Nat->Int->Int
 | 0,_,x=>x
 | m+1,k,x=>ux f m (k+1) (IntKind.u64.wrap (IntKind.u64.wrap (x*256)+f k))
def xE (f:Nat->Int) (k:Nat):Int × Nat:=(ux f 8 k 0,k+8)
def nU (f:Nat->Int) (n k:Nat):List Int × Nat:=((List.range n).map fun j=>f (k+j),k+n)
theorem uy {f:Nat->Int} {n:Int} {k:Nat} (hn:1<=n):0<=(bT f n k).1∧(bT f n k).1<n:=by
 unfold bT;split
 ·exact ⟨Int.emod_nonneg _ (by omega),Int.emod_lt_of_pos _ (by omega)⟩
 ·exact ⟨Int.emod_nonneg _ (by omega),Int.emod_lt_of_pos _ (by omega)⟩
theorem gv (p:Nat) (f:Nat->Int) (k:Nat) (n:Int) (w:World) (h:CurN w p f k) (hn:1<=n) (hn':n<=16777216):
 Calls Tryz.prog 65 #[PT p 0,VI n] w fun e w'=>∃x k',bT f n k=(x,k')∧(0<=x∧x<n)∧e=.returned (VI x)∧DrewN w p f k' w':=by
 have HB:Hid (∀j,0<=f j∧f j<=255):=fun j=>h.bd j;have HE:Hid (∀x k',(x,k')=bT f n k->bT f n k=(x,k')∧(0<=x∧x<n)):=fun x k' e=>by
  refine ⟨e.symm,?_⟩;have:=uy (f:=f) (k:=k) hn;rw [<-e] at this;exact this
 by_cases hs:n<=256
 ·have hx:=HB.out k;have HX:Hid ((f k%n,k+1)=bT f n k):=by show _=_;rw [bT,if_pos hs]
  have HC:Hid _:=jy p f k w h;generalize f k=x at *;go_enter Tryz.func65,Tryz.ntmps65;go_wp2_with fail;refine Calls.mono HC.out ?_;rintro e v1 ⟨rfl,k1⟩;go_wp2;go_ret;obtain ⟨q1,q2⟩:=HE.out _ _ HX.out;exact ⟨_,_,q1,q2,rfl,k1⟩
 ·have hx:=HB.out k;have hy:=HB.out (k+1);have hz:=HB.out (k+2);have HX:Hid (((f k*65536+f (k+1)*256+f (k+2))%n,k+3)=bT f n k):=by show _=_;rw [bT,if_neg hs]
  have HC1:Hid _:=jy p f k w h;have HC2:Hid (∀u,CurN u p f (k+1)->Calls Tryz.prog 68 #[PT p 0] u fun e w'=>e=.returned (VI (f (k+1)))∧DrewN u p f (k+2) w'):=fun u hu=>jy p f (k+1) u hu;have HC3:Hid (∀u,CurN u p f (k+2)->Calls Tryz.prog 68 #[PT p 0] u fun e w'=>e=.returned (VI (f (k+2)))∧DrewN u p f (k+3) w'):=fun u hu=>jy p f (k+2) u hu;generalize f k=x at *;generalize f (k+1)=y at *;generalize f (k+2)=z at *;go_enter Tryz.func65,Tryz.ntmps65;go_wp2_with fail;refine Calls.mono HC1.out ?_;rintro e v1 ⟨rfl,k1⟩;go_wp2_with fail;refine (HC2.out v1 k1.1).mono ?_;rintro e v2 ⟨rfl,k2⟩;have k12:=k1.trans k2;clear k1 k2;go_wp2_with fail;refine (HC3.out v2 k12.1).mono ?_;rintro e v3 ⟨rfl,k3⟩;have k13:=k12.trans k3;clear k12 k3;go_wp2;go_ret;obtain ⟨q1,q2⟩:=HE.out _ _ HX.out;exact ⟨_,_,q1,q2,rfl,k13⟩
theorem ij (p:Nat) (f:Nat->Int) (k:Nat) (n:Int) (w:World) (h:CurN w p f k) (hn:1<=n) (hn':n<=16777216):
 Calls Tryz.prog 64 #[PT p 0,VI n] w fun e w'=>∃x k',eu f n k=(x,k')∧e=.returned (.bool x)∧DrewN w p f k' w':=by
 go_enter Tryz.func64,Tryz.ntmps64;go_wp2_with fail;refine (gv p f k n w h hn hn').mono ?_;rintro e v1 ⟨x,k',e1,hx,rfl,k1⟩;have HE:Hid _:=e1;clear e1;go_wp2;go_ret;exact ⟨_,_,by rw [eu,HE.out],rfl,k1⟩
theorem sD (p:Nat) (f:Nat->Int) (k:Nat) (w:World) (h:CurN w p f k):
 Calls Tryz.prog 134 #[PT p 0] w fun e w'=>∃x k',xE f k=(x,k')∧(0<=x∧x<=18446744073709551615)∧e=.returned (VU x)∧DrewN w p f k' w':=by
 have HB:Hid (∀j,0<=f j∧f j<=255):=fun j=>h.bd j;go_enter Tryz.func134,Tryz.ntmps134;go_wp2;go_loopw [3,4] (fun xx kk wr=>∃(x:Int) (j:Nat),(0<=x∧x<=18446744073709551615)∧j<=8∧xx=VU x∧kk=VI j∧ux f (8-j) (k+j) x=ux f 8 k 0∧DrewN w p f (k+j) wr) (fun _ kk _=>8-(intOf kk).toNat)
 case atStart=>exact ⟨0,0,by omega,by omega,rfl,rfl,rfl,h,aw _ _⟩
 case round=>
  obtain ⟨x,j,hx,hj,rfl,rfl,hw,hd⟩:=hrel;have HW:Hid _:=hw;clear hw;by_cases hlt:j<8
  ·have hy:=HB.out (k+j);have HC:Hid _:=jy p f (k+j) wr hd.1;have HY:Hid (ux f (8-(j+1)) (k+(j+1)) (IntKind.u64.wrap (IntKind.u64.wrap (x*256)+f (k+j)))=ux f 8 k 0):=by
    show _=_;rw [<-HW.out,show 8-j=(8-(j+1))+1 by omega];rfl
   generalize f (k+j)=y at *;go_wp2_with fail;refine Calls.mono HC.out ?_;rintro e v1 ⟨rfl,k1⟩;have hd1:=hd.trans k1;clear hd k1;go_wp2_with fail;have hw:=lQ (IntKind.u64.wrap (x*256)+y);go_roundw
   case rel=>exact ⟨_,j+1,hw,by omega,rfl,by go_num,HY.out,hd1⟩
   case measure=>simp [intOf];omega
  ·have hj8:j=8:=by omega
   subst hj8;go_wp2;go_ret;exact ⟨x,k+8,by rw [xE,<-HW.out];rfl,hx,rfl,hd⟩
theorem Bc (f:Nat->Int) (j k:Nat):(nU f (j+1) k).1=(nU f j k).1++[f (k+j)]:=by
 simp [nU,List.range_succ]
theorem Af (p:Nat) (f:Nat->Int) (k:Nat) (n:Nat) (w:World) (h:CurN w p f k) (hn:n<=1048576):
 Calls Tryz.prog 66 #[PT p 0,VI n] w fun e w'=>
  ∃(g cp:Nat),e=.returned (SL g n cp)∧OwnB 5 w' w.heap.size g n cp (nU f n k).1∧DrewN w p f (k+n) w':=by
 have HB:Hid (∀j,0<=f j∧f j<=255):=fun j=>h.bd j;have hp:=h.lt;have o1:=OwnB.new 5 w [] 0 rfl (by decide);have n1:Below w.heap.size w (w.alloc (Obj.cells #[] 5)):=(brf).alloc (Nat.le_refl _) _;have d1:DrewN w p f k (w.alloc (Obj.cells #[] 5)):=DrewN.below ⟨h,aw _ _⟩ n1 hp;simp only [List.map_nil] at o1;clear n1;go_enter Tryz.func66,Tryz.ntmps66;go_wp2;go_loopw [5,6] (fun vv kk wr=>∃(g cp j:Nat),j<=n∧vv=SL g j cp∧kk=VI j∧OwnB 5 wr w.heap.size g j cp (nU f j k).1∧DrewN w p f (k+j) wr) (fun _ kk _=>n-(intOf kk).toNat)
 case atStart=>exact ⟨_,_,0,Nat.zero_le _,rfl,rfl,o1,d1⟩
 case round=>
  obtain ⟨g,cp,j,hk,rfl,rfl,ho,hd⟩:=hrel;have fa:=ho.facts;clear o1 d1;by_cases hlt:j<n
  ·have hy:=HB.out (k+j);have HC:Hid _:=jy p f (k+j) wr hd.1;have HM:Hid ((nU f (j+1) k).1=(nU f j k).1++[f (k+j)]):=Bc f j k;generalize (nU f j k).1=zs at *;generalize f (k+j)=y at *;go_wp2_with fail;refine Calls.mono HC.out ?_;rintro e v1 ⟨rfl,k1⟩;have hd1:=hd.trans k1;have o2:=ho.gb k1.2 (by omega);have n2:Below w.heap.size v1 (v1.alloc (Obj.cells #[Value.int .u8 y] 5)):=(brf).alloc hd1.2.size _;have o3:=o2.keep ((Below.refl v1.heap.size v1).alloc (Nat.le_refl _) (Obj.cells #[Value.int .u8 y] 5)) o2.facts.2.2.1;have y3:=uZ v1 5 y hy;clear hd k1 ho o2;go_wp2_with (at_builtin;refine fk _ rfl (.tmp 16) (.tmp 19) 22 rfl 5 Tryz.underlying22 Tryz.infoB w.heap.size _ _ _ _ rfl o3 v1.heap.size 0 1 1 [y] rfl y3 (by omega) _ _ n2 (Nat.le_refl _) ?_;intro g4 cp4 v4 o4 n4;clear o3 y3 n2);have hd4:=hd1.below n4 hp;go_roundw
   case rel=>exact ⟨g4,cp4,j+1,by omega,rfl,by go_num,by rw [HM.out];exact o4,hd4⟩
   case measure=>simp [intOf];omega
  ·have hkn:j=n:=by omega
   subst hkn;go_wp2;go_ret;exact ⟨g,cp,rfl,ho,hd⟩
def fS (f:Nat->Int) (user:Bool) (k:Nat):Int × Nat:=
 let a0:Int:=if user then 223 else 207
 let (b,k1):=eu f 5 k
 let a1:Int:=if b then bits .or .u64 a0 32 else a0
 let (c,k2):=eu f 3 k1
 let (d,k3):=bT f 8 k2
 if c then (bits .xor .u64 a1 (IntKind.u64.wrap (2^d.toNat)),k3) else (a1,k2)
theorem B4 (user b:Bool) (d:Int) (h0:0<=d) (h1:d<8):
 (0<=(if b then bits .or .u64 (if user then 223 else 207) 32 else (if user then 223 else 207):Int)∧(if b then bits .or .u64 (if user then 223 else 207) 32 else (if user then 223 else 207):Int)<=255)∧
 (0<=bits .xor .u64 (if b then bits .or .u64 (if user then 223 else 207) 32 else (if user then 223 else 207)) (IntKind.u64.wrap (2^d.toNat))∧bits .xor .u64 (if b then bits .or .u64 (if user then 223 else 207) 32 else (if user then 223 else 207)) (IntKind.u64.wrap (2^d.toNat))<=255):=by
 have hd:d=0∨d=1∨d=2∨d=3∨d=4∨d=5∨d=6∨d=7:=by omega
 rcases hd with rfl | rfl | rfl | rfl | rfl | rfl | rfl | rfl <;> cases user <;> cases b <;> decide
theorem AI {f:Nat->Int} {user:Bool} {k:Nat}:0<=(fS f user k).1∧(fS f user k).1<=255:=by
 rcases e1:eu f 5 k with ⟨b,k1⟩;rcases e2:eu f 3 k1 with ⟨c,k2⟩;rcases e3:bT f 8 k2 with ⟨d,k3⟩;have h8:=uy (f:=f) (n:=8) (k:=k2) (by omega);rw [e3] at h8;have hv:=B4 user b d h8.1 h8.2;simp only [fS,e1,e2,e3];cases c
 ·exact hv.1
 ·exact hv.2
theorem mG (p:Nat) (f:Nat->Int) (k:Nat) (user:Bool) (w:World) (h:CurN w p f k):
 Calls Tryz.prog 100 #[PT p 0,.bool user] w fun e w'=>∃x k',fS f user k=(x,k')∧(0<=x∧x<=255)∧e=.returned (VU x)∧DrewN w p f k' w':=by
 have HBd:Hid (∀x k',fS f user k=(x,k')->fS f user k=(x,k')∧(0<=x∧x<=255)):=fun x k' e=>⟨e,by have:=AI (f:=f) (user:=user) (k:=k);rw [e] at this;exact this⟩;obtain ⟨a0,ha0⟩:∃a0:Int,(if user then 223 else 207)=a0:=⟨_,rfl⟩;have HA0:Hid _:=ha0;clear ha0;go_enter Tryz.func100,Tryz.ntmps100;go_upto_if 7 with fail;go_cut [5] (fun s wx=>s=VU a0∧wx=w)
 case first=>
  cases user
  ·go_wp2;go_meet
   case rel=>exact ⟨by rw [<-HA0.out];rfl,rfl⟩
  ·go_wp2;go_meet
   case rel=>exact ⟨by rw [<-HA0.out];rfl,rfl⟩
 case rest=>
 obtain ⟨rfl,rfl⟩:=hcut;go_wp2_with fail;refine (ij p f k 5 _ h (by omega) (by omega)).mono ?_;rintro e v1 ⟨b,k1,e1,rfl,d1⟩;have E1:Hid _:=e1;clear e1;obtain ⟨a1,ha1⟩:∃a1:Int,(if b then bits .or .u64 a0 32 else a0)=a1:=⟨_,rfl⟩;have HA1:Hid _:=ha1;clear ha1;go_upto_if 11 with fail;go_cut [5] (fun s wx=>s=VU a1∧wx=v1)
 case first=>
  cases b
  ·go_wp2;go_meet
   case rel=>exact ⟨by rw [<-HA1.out];rfl,rfl⟩
  ·go_wp2;go_meet
   case rel=>exact ⟨by rw [<-HA1.out];rfl,rfl⟩
 case rest=>
 obtain ⟨rfl,rfl⟩:=hcut;go_wp2_with fail;refine (ij p f k1 3 _ d1.1 (by omega) (by omega)).mono ?_;rintro e v2 ⟨c,k2,e2,rfl,d2⟩;have E2:Hid _:=e2;have d12:=d1.trans d2;clear e2 d1 d2;obtain ⟨⟨d,k3⟩,e3⟩:∃X,bT f 8 k2=X:=⟨_,rfl⟩;have E3:Hid _:=e3;clear e3;cases c
 ·go_wp2;go_ret;obtain ⟨q1,q2⟩:=HBd.out _ _ (by simp only [fS,HA0.out,E1.out,HA1.out,E2.out,E3.out];rfl);exact ⟨_,_,q1,q2,rfl,d12⟩
 ·go_wp2_with fail;refine (gv p f k2 8 _ d12.1 (by omega) (by omega)).mono ?_;rintro e v3 ⟨d',k3',e4,hd,rfl,d3⟩;rw [E3.out] at e4;obtain ⟨rfl,rfl⟩:d=d'∧k3=k3':=by simpa using e4
  have d13:=d12.trans d3;clear d12 d3 e4;have hsh:0<=d∧d<64:=by omega
  go_wp2;go_ret;obtain ⟨q1,q2⟩:=HBd.out _ _ (by simp only [fS,HA0.out,E1.out,HA1.out,E2.out,E3.out];rfl);exact ⟨_,_,q1,q2,rfl,d13⟩
def ve (f:Nat->Int) (k:Nat):Int × Nat:=
 let (a,k1):=bT f 10 k
 let (n,k2):=bT f 64 k1
 if a=0 then xE f k2
 else if a<3 then
  let (x,k3):=xE f k2
  (bits .and .u64 x 18014398509481983,k3)
 else if a<5 then (n*1024+1,k2)
 else if a=5 then
  let (x,k3):=fS f false k2
  (n*8192+x,k3)
 else if a=6 then
  let (x,k3):=fS f true k2
  (n*65536+x,k3)
 else
  let (u,k3):=eu f 2 k2
  let (x,k4):=fS f u k3
  (n*1024+x,k4)
theorem wC (op:BinOp) (x y:Int):0<=bits op .u64 x y∧bits op .u64 x y<=18446744073709551615:=by
 unfold bits;exact lQ _
theorem DR (p:Nat) (f:Nat->Int) (k:Nat) (w:World) (h:CurN w p f k):
 Calls Tryz.prog 101 #[PT p 0] w fun e w'=>∃x k',ve f k=(x,k')∧(0<=x∧x<=18446744073709551615)∧e=.returned (VU x)∧DrewN w p f k' w':=by
 go_enter Tryz.func101,Tryz.ntmps101;go_wp2_with fail;refine (gv p f k 10 w h (by omega) (by omega)).mono ?_;rintro e v1 ⟨a,k1,e1,ha,rfl,d1⟩;have E1:Hid _:=e1;clear e1;go_wp2_with fail;refine (gv p f k1 64 _ d1.1 (by omega) (by omega)).mono ?_;rintro e v2 ⟨n,k2,e2,hn,rfl,d2⟩;have E2:Hid _:=e2;have d12:=d1.trans d2;clear e2 d1 d2;by_cases c0:a=0
 ·subst c0;go_wp2_with fail;refine (sD p f k2 _ d12.1).mono ?_;rintro e v3 ⟨x,k3,e3,hx,rfl,d3⟩;have E3:Hid _:=e3;have d13:=d12.trans d3;clear e3 d12 d3;go_wp2;go_ret;exact ⟨x,k3,by simp [ve,E1.out,E2.out,E3.out],hx,rfl,d13⟩
 have c0':(a == 0)=false:=by simpa using c0
 by_cases c1:a<3
 ·go_wp2_with fail;refine (sD p f k2 _ d12.1).mono ?_;rintro e v3 ⟨x,k3,e3,hx,rfl,d3⟩;have E3:Hid _:=e3;have d13:=d12.trans d3;clear e3 d12 d3;go_wp2;go_ret;exact ⟨_,k3,by simp only [ve,E1.out,E2.out,E3.out];rw [if_neg (by omega),if_pos (by omega)],wC _ _ _,rfl,d13⟩
 by_cases c2:a<5
 ·go_wp2;go_ret;exact ⟨n*1024+1,k2,by simp only [ve,E1.out,E2.out];rw [if_neg (by omega),if_neg (by omega),if_pos (by omega)],by omega,rfl,d12⟩
 by_cases c3:a=5
 ·subst c3;go_wp2_with fail;refine (mG p f k2 false _ d12.1).mono ?_;rintro e v3 ⟨x,k3,e3,hx,rfl,d3⟩;have E3:Hid _:=e3;have d13:=d12.trans d3;clear e3 d12 d3;go_wp2;go_ret;exact ⟨n*8192+x,k3,by simp [ve,E1.out,E2.out,E3.out],by omega,rfl,d13⟩
 have c3':(a == 5)=false:=by simpa using c3
 by_cases c4:a=6
 ·subst c4;go_wp2_with fail;refine (mG p f k2 true _ d12.1).mono ?_;rintro e v3 ⟨x,k3,e3,hx,rfl,d3⟩;have E3:Hid _:=e3;have d13:=d12.trans d3;clear e3 d12 d3;go_wp2;go_ret;exact ⟨n*65536+x,k3,by simp [ve,E1.out,E2.out,E3.out],by omega,rfl,d13⟩
 have c4':(a == 6)=false:=by simpa using c4
 go_wp2_with fail;refine (ij p f k2 2 _ d12.1 (by omega) (by omega)).mono ?_;rintro e v3 ⟨u,k3,e3,rfl,d3⟩;have E3:Hid _:=e3;have d13:=d12.trans d3;clear e3 d12 d3;go_wp2_with fail;refine (mG p f k3 u _ d13.1).mono ?_;rintro e v4 ⟨x,k4,e4,hx,rfl,d4⟩;have E4:Hid _:=e4;have d14:=d13.trans d4;clear e4 d13 d4;go_wp2;go_ret;exact ⟨n*1024+x,k4,by simp only [ve,E1.out,E2.out,E3.out,E4.out];rw [if_neg (by omega),if_neg (by omega),if_neg (by omega),if_neg (by omega),if_neg (by omega)],by omega,rfl,d14⟩
def vaX (f:Nat->Int) (k:Nat):Int × Nat:=
 let (a,k1):=bT f 10 k
 let (x,k2):=bT f 16384 k1
 if a=0 then xE f k2
 else if a=1 then (x+16384,k2)
 else if a=2 then (IntKind.u64.wrap (-x),k2)
 else (x,k2)
theorem Fc (p:Nat) (f:Nat->Int) (k:Nat) (w:World) (h:CurN w p f k):
 Calls Tryz.prog 98 #[PT p 0] w fun e w'=>∃x k',vaX f k=(x,k')∧(0<=x∧x<=18446744073709551615)∧e=.returned (VU x)∧DrewN w p f k' w':=by
 go_enter Tryz.func98,Tryz.ntmps98;go_wp2_with fail;refine (gv p f k 10 w h (by omega) (by omega)).mono ?_;rintro e v1 ⟨a,k1,e1,ha,rfl,d1⟩;have E1:Hid _:=e1;clear e1;go_wp2_with fail;refine (gv p f k1 16384 _ d1.1 (by omega) (by omega)).mono ?_;rintro e v2 ⟨n,k2,e2,hn,rfl,d2⟩;have E2:Hid _:=e2;have d12:=d1.trans d2;clear e2 d1 d2;by_cases c0:a=0
 ·subst c0;go_wp2_with fail;refine (sD p f k2 _ d12.1).mono ?_;rintro e v3 ⟨x,k3,e3,hx,rfl,d3⟩;have E3:Hid _:=e3;have d13:=d12.trans d3;clear e3 d12 d3;go_wp2;go_ret;exact ⟨x,k3,by simp [vaX,E1.out,E2.out,E3.out],hx,rfl,d13⟩
 have c0':(a == 0)=false:=by simpa using c0
 by_cases c1:a=1
 ·subst c1;go_wp2;go_ret;exact ⟨n+16384,k2,by simp [vaX,E1.out,E2.out],by omega,rfl,d12⟩
 have c1':(a == 1)=false:=by simpa using c1
 by_cases c2:a=2
 ·subst c2;go_wp2;go_ret;exact ⟨IntKind.u64.wrap (-n),k2,by simp [vaX,E1.out,E2.out],lQ _,rfl,d12⟩
 have c2':(a == 2)=false:=by simpa using c2
 go_wp2;go_ret;exact ⟨n,k2,by simp only [vaX,E1.out,E2.out];rw [if_neg (by omega),if_neg (by omega),if_neg (by omega)],by omega,rfl,d12⟩
def vl (f:Nat->Int) (page:Int) (k:Nat):Int × Nat:=
 let (a,k1):=eu f 12 k
 let (b,k2):=eu f 40 k1
 let (c,k3):=eu f 40 k2
 (page*1024+1+(if a then 32 else 0)-(if b then 1 else 0)+(if c then 64 else 0),k3)
theorem DV (p:Nat) (f:Nat->Int) (k:Nat) (page:Int) (w:World) (h:CurN w p f k) (h0:0<=page) (h1:page<=1000):
 Calls Tryz.prog 105 #[PT p 0,VI page] w fun e w'=>∃x k',vl f page k=(x,k')∧(0<=x∧x<=2000000)∧e=.returned (VU x)∧DrewN w p f k' w':=by
 go_enter Tryz.func105,Tryz.ntmps105;go_wp2_with fail;refine (ij p f k 12 _ h (by omega) (by omega)).mono ?_;rintro e v1 ⟨a,k1,e1,rfl,d1⟩;have E1:Hid _:=e1;clear e1;obtain ⟨x1,hx1⟩:∃x1:Int,page*1024+1+(if a then 32 else 0)=x1:=⟨_,rfl⟩;have HX1:Hid _:=hx1;have b1:1<=x1∧x1<=1100000:=by rw [<-hx1];split <;> omega
 clear hx1;go_upto_if 11 with fail;go_cut [5] (fun s wx=>s=VU x1∧wx=v1)
 case first=>
  cases a
  ·go_wp2;go_meet
   case rel=>exact ⟨by rw [<-HX1.out];simp,rfl⟩
  ·go_wp2;go_meet
   case rel=>exact ⟨by rw [<-HX1.out];simp,rfl⟩
 case rest=>
 obtain ⟨rfl,rfl⟩:=hcut;go_wp2_with fail;refine (ij p f k1 40 _ d1.1 (by omega) (by omega)).mono ?_;rintro e v2 ⟨b,k2,e2,rfl,d2⟩;have E2:Hid _:=e2;have d12:=d1.trans d2;clear e2 d1 d2;obtain ⟨x2,hx2⟩:∃x2:Int,x1-(if b then 1 else 0)=x2:=⟨_,rfl⟩;have HX2:Hid _:=hx2;have b2:0<=x2∧x2<=1100000:=by rw [<-hx2];split <;> omega
 clear hx2;go_upto_if 15 with fail;go_cut [5] (fun s wx=>s=VU x2∧wx=v2)
 case first=>
  cases b
  ·go_wp2;go_meet
   case rel=>exact ⟨by rw [<-HX2.out];simp,rfl⟩
  ·go_wp2;go_meet
   case rel=>exact ⟨by rw [<-HX2.out];rfl,rfl⟩
 case rest=>
 obtain ⟨rfl,rfl⟩:=hcut;go_wp2_with fail;refine (ij p f k2 40 _ d12.1 (by omega) (by omega)).mono ?_;rintro e v3 ⟨c,k3,e3,rfl,d3⟩;have E3:Hid _:=e3;have d13:=d12.trans d3;clear e3 d12 d3;cases c
 ·go_wp2;go_ret;exact ⟨x2,k3,by simp only [vl,E1.out,E2.out,E3.out,HX1.out,HX2.out];simp,by omega,rfl,d13⟩
 ·go_wp2;go_ret;exact ⟨x2+64,k3,by simp only [vl,E1.out,E2.out,E3.out,HX1.out,HX2.out];simp,by omega,rfl,d13⟩
def rR (asid root:Int):Int:=9223372036854775808+asid*17592186044416+root
theorem AK (asid root:Int) (w:World) (h0:0<=asid) (h1:asid<=1000) (h2:0<=root) (h3:root<=1000):
 Calls Tryz.prog 99 #[VI asid,VI root] w fun e w'=>e=.returned (VU (rR asid root))∧w'=w:=by
 have P1:Hid (∀u,Calls Tryz.prog 84 #[VI 60] u fun e w'=>e=.returned (VU 1152921504606846976)∧w'=u):=fun u=>bj 60 1152921504606846976 u (by omega) (by decide);have P2:Hid (∀u,Calls Tryz.prog 84 #[VI 44] u fun e w'=>e=.returned (VU 17592186044416)∧w'=u):=fun u=>bj 44 17592186044416 u (by omega) (by decide);go_enter Tryz.func99,Tryz.ntmps99;go_wp2_with fail;refine (P1.out w).mono ?_;rintro e _ ⟨rfl,rfl⟩;go_wp2_with fail;refine (P2.out _).mono ?_;rintro e _ ⟨rfl,rfl⟩;go_wp2;go_ret;exact ⟨rfl,rfl⟩
def gW (op a b c imm:Int):List Int:=[op,a+8*b,c,bits .and .i64 imm 255]
theorem rS (op a b c imm:Int) (w:World) (h1:0<=op∧op<=255) (h2:0<=a∧a<=7) (h3:0<=b∧b<=7) (h4:0<=c∧c<=255):
 Calls Tryz.prog 102 #[VI op,VI a,VI b,VI c,VI imm] w fun e w'=>∃g,e=.returned (SL g 4 4)∧OwnB 5 w' w.heap.size g 4 4 (gW op a b c imm)∧Below w.heap.size w w':=by
 obtain ⟨m,hm⟩:∃m,bits .and .i64 imm 255=m:=⟨_,rfl⟩;have bm:0<=m∧m<=255:=by rw [<-hm];exact kJ imm 255 (by omega) (by omega)
 have o:=OwnB.new 5 w [op,a+8*b,c,m] 4 rfl (by decide);have n:=(Below.refl w.heap.size w).alloc (Nat.le_refl _) (Obj.cells #[.int .u8 op,.int .u8 (a+8*b),.int .u8 c,.int .u8 m] 5);have HM:Hid (gW op a b c imm=[op,a+8*b,c,m]):=by show _=_;rw [gW,hm]
 rw [HM.out];clear HM;go_enter Tryz.func102,Tryz.ntmps102;go_wp2;go_ret;exact ⟨_,rfl,o,n⟩
def kc (a:Int) (zs:List Int):List Int:=[a%256,a/256,(zs.length:Int)]++zs
theorem uf (a:Int) (b off n cap:Nat) (zs:List Int) (w:World) (h:Byt w (some (AD b off)) n zs) (hn:n<=255) (h0:0<=a) (h1:a<=65535):
 Calls Tryz.prog 103 #[VI a,.slice (some (AD b off)) n cap] w fun e w'=>∃g c,e=.returned (SL g (3+n) c)∧OwnB 5 w' w.heap.size g (3+n) c (kc a zs)∧Below w.heap.size w w':=by
 obtain ⟨x,hx⟩:∃x,a%256=x:=⟨_,rfl⟩;obtain ⟨y,hy⟩:∃y,a/256=y:=⟨_,rfl⟩;have bx:0<=x∧x<=255:=by omega
 have yb:0<=y∧y<=255:=by omega
 have o:=OwnB.new 5 w [x,y,(n:Int)] 3 rfl (by decide);have m:=(Below.refl w.heap.size w).alloc (Nat.le_refl _) (Obj.cells #[.int .u8 x,.int .u8 y,.int .u8 n] 5);have HB:Hid _:=h.keep m;have HX:Hid (kc a zs=[x,y,(n:Int)]++zs):=by show _=_;rw [kc,hx,hy,h.1]
 rw [HX.out];clear h HX;go_enter Tryz.func103,Tryz.ntmps103;go_wp2_with (at_builtin;refine fk _ rfl (.tmp 14) (.tmp 15) 22 rfl 5 Tryz.underlying22 Tryz.infoB w.heap.size w.heap.size 3 3 [x,y,(n:Int)] rfl o b off n cap zs rfl HB.out (by omega) w.heap.size w m (Nat.le_refl _) ?_;intro g4 cp4 v4 o4 n4;clear o m);go_ret;exact ⟨g4,cp4,rfl,o4,n4⟩
def kK (page index pte:Int):List Int:=kc (64*page+8*index) (cL pte 8)
theorem tK (page index pte:Int) (w:World) (h1:0<=page∧page<=63) (h2:0<=index∧index<=7) (h3:0<=pte∧pte<=18446744073709551615):
 Calls Tryz.prog 104 #[VI page,VI index,VU pte] w fun e w'=>∃g c,e=.returned (SL g 11 c)∧OwnB 5 w' w.heap.size g 11 c (kK page index pte)∧Below w.heap.size w w':=by
 have HB:Hid (∀i:Nat,0<=(cL pte 8)[i]?.getD 0∧(cL pte 8)[i]?.getD 0<=255):=df (kL 8 pte);have C1:Hid (∀u,Calls Tryz.prog 97 #[VU pte,VI 8] u fun e w'=>∃g cap,e=.returned (SL g 8 cap)∧OwnB 5 w' u.heap.size g 8 cap (cL pte 8)∧Below u.heap.size u w'):=fun u=>ms 8 pte u (by omega) h3.1 h3.2;have C2:Hid (∀u b cap,Byt u (some (AD b 0)) 8 (cL pte 8)->Calls Tryz.prog 103 #[VI (64*page+8*index),SL b 8 cap] u fun e w'=>∃g c,e=.returned (SL g 11 c)∧OwnB 5 w' u.heap.size g 11 c (kK page index pte)∧Below u.heap.size u w'):=fun u b cap hb=>uf (64*page+8*index) b 0 8 cap (cL pte 8) u hb (by omega) (by omega) (by omega);go_enter Tryz.func104,Tryz.ntmps104;go_wp2_with fail;refine (C1.out w).mono ?_;rintro e v1 ⟨g,cap,rfl,o1,n1⟩;go_wp2_with fail;refine (C2.out v1 g cap (o1.byt HB.out)).mono ?_;rintro e v2 ⟨g2,c2,rfl,o2,n2⟩;have o3:=o2.low n1.size;have n12:=Below.step n1 n2 (Nat.le_refl _);clear o1 o2 n1 n2;go_wp2;go_ret;exact ⟨g2,c2,rfl,o3,n12⟩
structure OutS (w:World) (p:Nat) (f:Nat->Int) (k:Nat) (wr:World) (g n cp:Nat) (zs:List Int):Prop where
 d:DrewN w p f k wr
 o:OwnB 5 wr w.heap.size g n cp zs
 l:zs.length=n
 b:∀i:Nat,0<=zs[i]?.getD 0∧zs[i]?.getD 0<=255
theorem OutS.draw {w wr v:World} {p:Nat} {f:Nat->Int} {k k' g n cp:Nat} {zs:List Int} (s:OutS w p f k wr g n cp zs) (hp:p<w.heap.size) (d:DrewN wr p f k' v):OutS w p f k' v g n cp zs:=
 ⟨s.d.trans d,s.o.gb d.2 (by have:=s.o.facts.2.1;omega),s.l,s.b⟩
theorem OutS.below {w wr v:World} {p:Nat} {f:Nat->Int} {k g n cp:Nat} {zs:List Int} (s:OutS w p f k wr g n cp zs) (hp:p<w.heap.size) (m:Below wr.heap.size wr v):OutS w p f k v g n cp zs:=
 ⟨s.d.below (m.mono s.d.2.size) hp,s.o.keep m s.o.facts.2.2.1,s.l,s.b⟩
theorem OutS.app {w wr v:World} {p:Nat} {f:Nat->Int} {k g n cp g' cp' m:Nat} {zs ys:List Int} (s:OutS w p f k wr g n cp zs) (hp:p<w.heap.size) (hm:Below w.heap.size wr v) (o:OwnB 5 v w.heap.size g' (n+m) cp' (zs++ys)) (hy:ys.length=m) (hb:∀i:Nat,0<=ys[i]?.getD 0∧ys[i]?.getD 0<=255):OutS w p f k v g' (n+m) cp' (zs++ys):=
 ⟨s.d.below hm hp,o,by rw [List.length_append,hy,s.l],df fun y hy=>by
  rcases List.mem_append.1 hy with h | h
  ·exact dP s.b y h
  ·exact dP hb y h⟩
theorem we {op a b c imm:Int} (h1:0<=op∧op<=255) (h2:0<=a∧a<=7) (h3:0<=b∧b<=7) (h4:0<=c∧c<=255):∀i:Nat,0<=(gW op a b c imm)[i]?.getD 0∧(gW op a b c imm)[i]?.getD 0<=255:=
 df fun y hy=>by
  have hm:=kJ imm 255 (by omega) (by omega);simp only [gW,List.mem_cons,List.not_mem_nil,or_false] at hy;rcases hy with rfl | rfl | rfl | rfl <;> omega
def EY:Value->Nat
 | .slice _ n _=>n
 | _=>0
theorem Tryz.infoSl:(Tryz.prog.info? 22).map (fun i=>(i.zero,i.size,i.bytes))=some (some (SN),1,24):=by kernel_rfl
def yc (wr:World) (base gO:Nat) (cells:List Value) (rs:List (List Int)):Prop:=
 cells.length=rs.length∧∀(i:Nat) (r:List Int),rs[i]?=some r->∃ge ce,cells[i]?=some (SL ge r.length ce)∧OwnB 5 wr base ge r.length ce r∧ge≠gO∧(∀j:Nat,0<=r[j]?.getD 0∧r[j]?.getD 0<=255)∧r.length<=300∧1<=r.length
structure ScS (w:World) (p:Nat) (f:Nat->Int) (k:Nat) (wr:World) (g nn cp:Nat) (zs:List Int) (gR m cR:Nat) (rs:List (List Int)):Prop where
 s:OutS w p f k wr g nn cp zs
 c:∃cells,OwnC 22 1 wr w.heap.size gR m cR cells∧yc wr w.heap.size g cells rs
 l:rs.length=m
theorem ScS.draw {w wr v:World} {p:Nat} {f:Nat->Int} {k k' g nn cp:Nat} {zs:List Int} {gR m cR:Nat} {rs:List (List Int)} (s:ScS w p f k wr g nn cp zs gR m cR rs) (hp:p<w.heap.size) (d:DrewN wr p f k' v):ScS w p f k' v g nn cp zs gR m cR rs:=by
 obtain ⟨cells,o,hc,hr⟩:=s.c;refine ⟨s.s.draw hp d,⟨cells,o.gb d.2 (by have:=o.facts.2.1;omega),hc,fun i r hi=>?_⟩,s.l⟩;obtain ⟨ge,ce,h1,h2,h3⟩:=hr i r hi;exact ⟨ge,ce,h1,h2.gb d.2 (by have:=h2.facts.2.1;omega),h3⟩
theorem ScS.below {w wr v:World} {p:Nat} {f:Nat->Int} {k g nn cp:Nat} {zs:List Int} {gR m cR:Nat} {rs:List (List Int)} (s:ScS w p f k wr g nn cp zs gR m cR rs) (hp:p<w.heap.size) (n:Below wr.heap.size wr v):ScS w p f k v g nn cp zs gR m cR rs:=by
 obtain ⟨cells,o,hc,hr⟩:=s.c;refine ⟨s.s.below hp n,⟨cells,o.keep n o.facts.2.2.1,hc,fun i r hi=>?_⟩,s.l⟩;obtain ⟨ge,ce,h1,h2,h3⟩:=hr i r hi;exact ⟨ge,ce,h1,h2.keep n h2.facts.2.2.1,h3⟩
theorem pR {e e':TypeId} {s s' base base' g g' n n' c c':Nat} {w:World} {cs cs':List Value} (h:OwnC e s w base g n c cs) (h':OwnC e' s' w base' g' n' c' cs') (he:e≠e'):g≠g':=by
 rintro rfl;rcases h.2 with ⟨h1,_⟩ | ⟨x,cap,cur,h1,_,h2,_⟩
 ·simp at h1
 ·rcases h'.2 with ⟨h3,_⟩ | ⟨y,cap',cur',h3,_,h4,_⟩
  ·simp at h3
  ·simp at h1 h3;obtain ⟨rfl,_⟩:=h1;obtain ⟨rfl,_⟩:=h3;rw [h2] at h4;simp at h4;exact he h4.2
theorem ScS.add {w wr v:World} {p:Nat} {f:Nat->Int} {k g nn cp:Nat} {zs:List Int} {gR m cR gR' cR':Nat} {rs:List (List Int)} {cells:List Value} {ge ce:Nat} {r:List Int} (s:ScS w p f k wr g nn cp zs gR m cR rs) (hp:p<w.heap.size)
 (o:OwnC 22 1 wr w.heap.size gR m cR cells) (hc:yc wr w.heap.size g cells rs) (hg:wr.grownBy v (some gR)) (o':OwnC 22 1 v w.heap.size gR' (m+1) cR' (cells++[SL ge r.length ce]))
 (oe:OwnB 5 wr w.heap.size ge r.length ce r) (hge:ge≠g) (hb:∀j:Nat,0<=r[j]?.getD 0∧r[j]?.getD 0<=255) (hl:r.length<=300) (hl1:1<=r.length):ScS w p f k v g nn cp zs gR' (m+1) cR' (rs++[r]):=by
 have n1:g≠gR:=pR s.s.o o (by decide);have n2:ge≠gR:=pR oe o (by decide);have hpR:p≠gR:=by have:=o.facts.2.1;omega
 have cur:CurN v p f k:=by
  obtain ⟨a,len,cap,code,h0,hf,hh,⟨b1,b2,b3⟩,hlt,hl⟩:=s.s.d.1;refine ⟨a,len,cap,code,h0,hf,by rw [hg.block p (Array.getElem?_eq_some_iff.1 hh).1 (by simpa using hpR)];exact hh,⟨b1,b2,?_⟩,hlt,hl⟩;by_cases h0:len=0
  ·exact .inl h0
  rcases b3 with b3 | ⟨b,off,rfl,hbw,hcc⟩
  ·exact .inl b3
  ·have hbp:b<p:=hlt (by omega) (AD b off) rfl;refine .inr ⟨b,off,rfl,ltl hbw hg.size,fun j hj=>?_⟩;rw [<-hcc j hj];unfold World.cell?;rw [hg.block b hbw (by have:=o.facts.2.1;simp;omega)]
 have gD:w.grownBy v (some p):=⟨hg.os.trans s.s.d.2.os,hg.tape.trans s.s.d.2.tape,hg.output.trans s.s.d.2.output,Nat.le_trans s.s.d.2.size hg.size,fun i hi hn=>(hg.block i (ltl hi s.s.d.2.size) (by have:=o.facts.2.1;simp;omega)).trans (s.s.d.2.block i hi hn)⟩;refine ⟨⟨⟨cur,gD⟩,s.s.o.gb hg n1,s.s.l,s.s.b⟩,⟨_,o',by simp [hc.1],fun i r' hi=>?_⟩,by simp [s.l]⟩;by_cases hlt:i<rs.length
 ·rw [List.getElem?_append_left hlt] at hi;obtain ⟨ge',ce',h1,h2,h3,h4⟩:=hc.2 i r' hi;exact ⟨ge',ce',by rw [List.getElem?_append_left (by rw [hc.1];exact hlt)];exact h1,h2.gb hg (pR h2 o (by decide)),h3,h4⟩
 ·have hi':i=rs.length:=by
   have:=(List.getElem?_eq_some_iff.1 hi).1;simp at this;omega
  subst hi';simp at hi;subst hi;refine ⟨ge,ce,by rw [<-hc.1];simp,oe.gb hg n2,hge,hb,hl,hl1⟩
theorem Bz {P:Program} (w:World) {ops:Array Oper} {rest:List Oper} {o:Oper} {a:Act} {Q:Exit->Act->World->Prop} (hgd:o.guard=none) (s x:Operand) (t:TypeId)
 (ho:o.op=.call { callee:=.builtin .append,args:=#[s,x],argTypes:=#[t,t] }) (e:TypeId) (ht:P.underlying t=some (.slice e))
 (hi:(P.info? e).map (fun i=>(i.zero,i.size,i.bytes))=some (some (.int .u8 0),1,1))
 (base g n cap:Nat) (zs:List Int) (hs:a.eval s=SL g n cap) (hown:OwnB e w base g n cap zs)
 (b off m c:Nat) (ys:List Int) (hx:a.eval x=.slice (some (AD b off)) m c) (hm:0<m) (hy:Byt w (some (AD b off)) m ys) (hbd:n+m<=2147483648) (hbw:base<=w.heap.size)
 (h:∀g' cap' w',OwnB e w' base g' (n+m) cap' (zs++ys)->w.grownBy w' (some g)->(g'=g∨g'=w.heap.size)->wpList P ops Q rest (a.put o.dst (SL g' (n+m) cap')) w'):wpList P ops Q (o::rest) a w:=by
 obtain ⟨i0,hi,hz0,hz1,hz2⟩:=info_parts hi;refine wpList_append_lies w hgd s x t ho base e i0 (.int .u8 0) 1 1 ht hi hz0 hz1 hz2 rfl (by decide) _ n _ hs hown (AD b off) m c (ys.map (Value.int .u8)) hx (by simp [hy.1]) (zH hy) (vY _) hm (by unfold maxLen;omega) (by omega) hbw w.heap.size rfl ?_;intro g' cap' w' h1 h2 h3 _;refine h g' cap' w' ?_ h2 ?_
 ·unfold OwnB;rw [List.map_append];exact h1
 ·rcases h3 with h3 | h3
  ·exact .inl (by simpa [Value.ownBlock] using h3.symm)
  ·exact .inr h3
theorem ScS.out {w wr v:World} {p:Nat} {f:Nat->Int} {k g nn cp g' cp' l:Nat} {zs ys:List Int} {gR m cR:Nat} {rs:List (List Int)} (s:ScS w p f k wr g nn cp zs gR m cR rs) (hp:p<w.heap.size)
 (hg:wr.grownBy v (some g)) (o':OwnB 5 v w.heap.size g' (nn+l) cp' (zs++ys)) (hw:g'=g∨g'=wr.heap.size) (hy:ys.length=l) (hb:∀j:Nat,0<=ys[j]?.getD 0∧ys[j]?.getD 0<=255):ScS w p f k v g' (nn+l) cp' (zs++ys) gR m cR rs:=by
 obtain ⟨cells,o,hc,hr⟩:=s.c;have hpg:p≠g:=by have:=s.s.o.facts.2.1;omega
 have cur:CurN v p f k:=by
  obtain ⟨a,len,cap,code,h0,hf,hh,⟨b1,b2,b3⟩,hlt,hl⟩:=s.s.d.1;refine ⟨a,len,cap,code,h0,hf,by rw [hg.block p (Array.getElem?_eq_some_iff.1 hh).1 (by simpa using hpg)];exact hh,⟨b1,b2,?_⟩,hlt,hl⟩;by_cases h0:len=0
  ·exact .inl h0
  rcases b3 with b3 | ⟨b,off,rfl,hbw,hcc⟩
  ·exact .inl b3
  ·have hbp:b<p:=hlt (by omega) (AD b off) rfl;refine .inr ⟨b,off,rfl,ltl hbw hg.size,fun j hj=>?_⟩;rw [<-hcc j hj];unfold World.cell?;rw [hg.block b hbw (by have:=s.s.o.facts.2.1;simp;omega)]
 have gD:w.grownBy v (some p):=⟨hg.os.trans s.s.d.2.os,hg.tape.trans s.s.d.2.tape,hg.output.trans s.s.d.2.output,Nat.le_trans s.s.d.2.size hg.size,fun i hi hn=>(hg.block i (ltl hi s.s.d.2.size) (by have:=s.s.o.facts.2.1;simp;omega)).trans (s.s.d.2.block i hi hn)⟩;refine ⟨⟨⟨cur,gD⟩,o',by rw [List.length_append,hy,s.s.l],df fun y hy=>?_⟩,⟨cells,o.gb hg (pR o s.s.o (by decide)),hc,fun i r hi=>?_⟩,s.l⟩
 ·rcases List.mem_append.1 hy with hy | hy
  ·exact dP s.s.b y hy
  ·exact dP hb y hy
 ·obtain ⟨ge,ce,h1,h2,h3,h4⟩:=hr i r hi;refine ⟨ge,ce,h1,h2.gb hg h3,?_,h4⟩;rcases hw with rfl | rfl
  ·exact h3
  ·have:=h2.facts.2.2.1;omega
theorem Ft {y z:Int} (h:0<=y∧y<=255) (h':0<=z∧z<=255):∀i:Nat,0<=[y,z][i]?.getD 0∧[y,z][i]?.getD 0<=255:=df fun x hx=>by
 simp at hx;rcases hx with rfl | rfl
 ·exact h
 ·exact h'
theorem Bu {w:World} {b off n m:Nat} {zs:List Int} (h:Byt w (some (AD b off)) n zs) (hm:m<=n):Byt w (some (AD b off)) m (zs.take m):=by
 obtain ⟨h1,h2,h3⟩:=h;refine ⟨by rw [List.length_take];omega,fun i=>?_,?_⟩
 ·by_cases hi:i<m
  ·rw [List.getElem?_take_of_lt hi];exact h2 i
  ·rw [List.getElem?_eq_none (by rw [List.length_take];omega)];simp
 ·rcases h3 with h3 | ⟨b',off',e,hlt,hc⟩
  ·exact .inl (by omega)
  ·refine .inr ⟨b',off',e,hlt,fun j hj=>?_⟩;rw [List.getElem?_take_of_lt hj];exact hc j (by omega)
theorem Fu {xs ys:List Int} (h:∀j:Nat,0<=xs[j]?.getD 0∧xs[j]?.getD 0<=255) (h':∀j:Nat,0<=ys[j]?.getD 0∧ys[j]?.getD 0<=255):∀j:Nat,0<=(xs++ys)[j]?.getD 0∧(xs++ys)[j]?.getD 0<=255:=df fun y hy=>by
 rcases List.mem_append.1 hy with hy | hy
 ·exact dP h y hy
 ·exact dP h' y hy
theorem uI (a:Int) (zs:List Int):(kc a zs).length=3+zs.length:=by simp [kc];omega
theorem xY {a:Int} {zs:List Int} (h0:0<=a) (h1:a<=65535) (hl:zs.length<=255) (hb:∀j:Nat,0<=zs[j]?.getD 0∧zs[j]?.getD 0<=255):∀j:Nat,0<=(kc a zs)[j]?.getD 0∧(kc a zs)[j]?.getD 0<=255:=df fun y hy=>by
 simp only [kc,List.cons_append,List.nil_append,List.mem_cons] at hy;rcases hy with rfl | rfl | rfl | hy
 ·omega
 ·omega
 ·omega
 ·exact dP hb y hy
theorem Df (page index pte:Int):(kK page index pte).length=11:=by rw [kK,uI,fX]
theorem Ev {page index pte:Int} (h1:0<=page∧page<=63) (h2:0<=index∧index<=7) (h3:0<=pte∧pte<=18446744073709551615):∀j:Nat,0<=(kK page index pte)[j]?.getD 0∧(kK page index pte)[j]?.getD 0<=255:=xY (by omega) (by omega) (by rw [fX];omega) (df (kL 8 pte))
theorem Bv {P:Program} (w:World) {ops:Array Oper} {rest:List Oper} {o:Oper} {a:Act} {Q:Exit->Act->World->Prop} (hgd:o.guard=none) (s x:Operand) (t:TypeId)
 (ho:o.op=.call { callee:=.builtin .append,args:=#[s,x],argTypes:=#[t,t] }) (e:TypeId) (ht:P.underlying t=some (.slice e)) (z:Value) (size bytes:Nat)
 (hi:(P.info? e).map (fun i=>(i.zero,i.size,i.bytes))=some (some z,size,bytes)) (hzs:z.cells.size=size) (hsz:0<size)
 (base g n cap:Nat) (cs:List Value) (hs:a.eval s=SL g n cap) (hown:OwnC e size w base g n cap cs)
 (b off m c:Nat) (ys:List Value) (hx:a.eval x=.slice (some (AD b off)) m c) (hm:0<m) (hy:RowC w (some (AD b off)) m size ys) (h1:∀u∈ys,u.oneCell'=true)
 (hbd:(n+m)*bytes<=140737488355328) (hbd':n+m<=9223372036854775807) (hbw:base<=w.heap.size)
 (h:∀g' cap' w',OwnC e size w' base g' (n+m) cap' (cs++ys)->w.grownBy w' (some g)->wpList P ops Q rest (a.put o.dst (SL g' (n+m) cap')) w'):wpList P ops Q (o::rest) a w:=
 wpList_plain hgd fun _ hK=>by
  obtain ⟨i0,hi,hz0,hz1,hz2⟩:=info_parts hi;refine wp_append_own w s x t ho base e i0 z size bytes ht hi hz0 hz1 hz2 hzs hsz _ n _ hs hown (AD b off) m c ys hx hy.1 (vh hy) h1 (by unfold maxLen;omega) hbd (by omega) ?_;intro v' w' h1 h2 h3;rcases h1.2 with ⟨e1,e2⟩ | ⟨g,cap,cur,e1,r⟩
  ·omega
  ·subst e1;exact hK _ _ (h g cap w' h1 h2)
end Go.Proofs.YtkenjknmfhoppaaGreat
