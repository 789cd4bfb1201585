import Derived.Test.YthekickjjaleaaaGreatPack01
namespace Go.Proofs.YthekickjjaleaaaGreat
open Go.RowKit
set_option linter.unusedVariables false
def xh (h:Int):Int:=wrap64 (wrap64 (h*6364136223846793005)+1442695040888963407)
def wy (h:Int):Int:=bits BinOp.and IntKind.i64 (bits BinOp.xor IntKind.i64 (h/8589934592) (h/35184372088832)) 255
def hAt (h0:Int):Nat→Int
 | 0=>h0
 | k+1=>xh (hAt h0 k)
def mW (code:List Int) (h0:Int) (k:Nat):Int:=
 if k<code.length then bits BinOp.and IntKind.i64 (wy (hAt h0 (k+1))+code[k]?.getD 0) 255 else wy (hAt h0 (k+1))
theorem wA (code:List Int) (h0:Int) (k:Nat):0≤mW code h0 k∧mW code h0 k≤255:=by
 unfold mW;split
 ·exact iH _ 255 (by omega) (by omega)
 ·exact iH _ 255 (by omega) (by omega)
def CurN (w:World) (p:Nat) (f:Nat→Int) (k:Nat):Prop:=
 ∃(a:Option Addr) (len cap:Nat) (code:List Int) (h0:Int),f=mW code h0∧w.heap[p]?=some (.cells #[.slice a len cap,.int .i64 ((min k len:Nat):Int),.int .i64 (hAt h0 k)] 237 (0,0))∧Byt w a len code∧(0<len→∀x,a=some x→x.block<p)∧len≤1048576
def DrewN (w:World) (p:Nat) (f:Nat→Int) (k:Nat) (w':World):Prop:=CurN w' p f k∧w.grownBy w' (some p)
theorem CurN.bd {w:World} {p:Nat} {f:Nat→Int} {k:Nat} (h:CurN w p f k) (j:Nat):0≤f j∧f j≤255:=by
 obtain ⟨_,_,_,code,h0,rfl,_⟩:=h;exact wA code h0 j
theorem CurN.lt {w:World} {p:Nat} {f:Nat→Int} {k:Nat} (h:CurN w p f k):p<w.heap.size:=by
 obtain ⟨_,_,_,_,_,_,hh,_⟩:=h;exact (Array.getElem?_eq_some_iff.1 hh).1
theorem CurN.below {B:Nat} {w v:World} {p:Nat} {f:Nat→Int} {k:Nat} (h:CurN w p f k) (hb:Below B w v) (hp:p<B):CurN v p f k:=by
 obtain ⟨a,len,cap,code,h0,hf,hh,⟨h1,h2,h3⟩,hlt,hl⟩:=h;refine ⟨a,len,cap,code,h0,hf,by rw [hb.block p hp];exact hh,⟨h1,h2,?_⟩,hlt,hl⟩;by_cases h0:len=0
 ·exact .inl h0
 rcases h3 with h3 | ⟨b,off,rfl,hbw,hc⟩
 ·exact .inl h3
 ·have hbp:b<p:=hlt (by omega) ⟨b,off,none⟩ rfl;exact .inr ⟨b,off,rfl,Nat.lt_of_lt_of_le hbw hb.size,fun j hj=>(hb.cell (p:=⟨b,off+j,none⟩) (Nat.lt_trans hbp hp)).trans (hc j hj)⟩
theorem DrewN.trans {w v u:World} {p:Nat} {f:Nat→Int} {k k':Nat} (h:DrewN w p f k v) (h':DrewN v p f k' u):DrewN w p f k' u:=⟨h'.1,cS h.2 h'.2⟩
theorem DrewN.below {w v u:World} {p:Nat} {f:Nat→Int} {k:Nat} (h:DrewN w p f k v) (hb:Below w.heap.size v u) (hp:p<w.heap.size):DrewN w p f k u:=
 ⟨h.1.below hb hp,⟨hb.os.trans h.2.os,hb.tape.trans h.2.tape,hb.output.trans h.2.output,Nat.le_trans h.2.size hb.size,fun i hi hn=>(hb.block i hi).trans (h.2.block i hi hn)⟩⟩
theorem DrewN.refl {w:World} {p:Nat} {f:Nat→Int} {k:Nat} (h:CurN w p f k):DrewN w p f k w:=⟨h,az _ _⟩
theorem uk {w v:World} {p:Nat} {a:Option Addr} {len cap:Nat} {code:List Int} {k:Nat} {h0:Int} {o:Obj}
 (hh:w.heap[p]?=some o) (hb:Byt w a len code) (hlt:0<len→∀x,a=some x→x.block<p) (hl:len≤1048576)
 (hv:v.heap[p]?=some (.cells #[.slice a len cap,.int .i64 ((min (k+1) len:Nat):Int),.int .i64 (hAt h0 (k+1))] 237 (0,0))) (hg:w.grownBy v (some p)):DrewN w p (mW code h0) (k+1) v:=by
 refine ⟨⟨a,len,cap,code,h0,rfl,hv,?_,hlt,hl⟩,hg⟩;obtain ⟨h1,h2,h3⟩:=hb;refine ⟨h1,h2,?_⟩;by_cases h0:len=0
 ·exact .inl h0
 rcases h3 with h3 | ⟨b,off,rfl,hbw,hc⟩
 ·exact .inl h3
 ·have hbp:b<p:=hlt (by omega) ⟨b,off,none⟩ rfl;refine .inr ⟨b,off,rfl,Nat.lt_of_lt_of_le hbw hg.size,fun j hj=>?_⟩;rw [←hc j hj];unfold World.cell?;rw [hg.block b hbw (by simp;omega)]
set_option maxHeartbeats 800000 in
theorem iw (p:Nat) (f:Nat→Int) (k:Nat) (w:World) (h:CurN w p f k):
 Calls Tryz.prog 137 #[.pointer (some ⟨p,0,none⟩)] w fun e w'=>e=.returned (.int .i64 (f k))∧DrewN w p f (k+1) w':=by
 obtain ⟨a,len,cap,code,h0,rfl,hh,hb,hlt,hl⟩:=h;have c0:w.cell? ⟨p,0,none⟩=some (.slice a len cap):=by simp [World.cell?,hh]
 have c1:w.cell? ⟨p,1,none⟩=some (.int .i64 ((min k len:Nat):Int)):=by simp [World.cell?,hh]
 have c2:w.cell? ⟨p,2,none⟩=some (.int .i64 (hAt h0 k)):=by simp [World.cell?,hh]
 have f1:w.frozen? ⟨p,1,none⟩=false:=by simp [World.frozen?,hh]
 have f2:w.frozen? ⟨p,2,none⟩=false:=by simp [World.frozen?,hh]
 have hlen:=hb.1;obtain ⟨i,hi⟩:∃i,min k len=i:=⟨_,rfl⟩;rw [hi] at c1 hh;obtain ⟨X,hX⟩:∃X,mW code h0 k=X:=⟨_,rfl⟩;rw [hX];have HS:Hid (∀(v:World) (i':Nat) (h':Int),i'=min (k+1) len→h'=hAt h0 (k+1)→v.heap[p]?=some (.cells #[.slice a len cap,.int .i64 i',.int .i64 h'] 237 (0,0))→w.grownBy v (some p)→DrewN w p (mW code h0) (k+1) v):=
  fun v i' h' hi' hh' hv hg=>uk hh hb hlt hl (by subst hi' hh';exact hv) hg
 have HH:Hid _:=hh;obtain ⟨h',hh'⟩:∃h',wrap64 (wrap64 (hAt h0 k*6364136223846793005)+1442695040888963407)=h':=⟨_,rfl⟩;have HK:Hid (h'=hAt h0 (k+1)):=hh'.symm;by_cases hil:i<len
 ·rcases hb.2.2 with h3 | ⟨b,off,rfl,hbw,hc⟩
  ·omega
  have g1:=hc i hil;have g2:=hb.2.1 i;have hbp:b<p:=hlt (by omega) ⟨b,off,none⟩ rfl;obtain ⟨z,hz⟩:∃z,z=code[i]?.getD 0:=⟨_,rfl⟩;rw [←hz] at g1 g2;have hbp':b≠p:=by omega
  have hik:i=k:=by omega
  have HX:Hid (bits BinOp.and IntKind.i64 (bits BinOp.and IntKind.i64 (bits BinOp.xor IntKind.i64 (h'/8589934592) (h'/35184372088832)) 255+z) 255=X):=by
   show _=_;rw [←hX,mW,if_pos (by omega),wy,←HK.out,hz,hik]
  have HI:Hid (i+1=min (k+1) len):=by show _=_;omega
  clear hc hz hlt hb hh hX hik hi;generalize hAt h0 k=hk at *;go_enter Tryz.func137,Tryz.ntmps137;go_wp2_with fail;rw [hh'];go_quiet (fail);rename Nat=>nq';have hx:=iH (bits BinOp.xor IntKind.i64 (h'/8589934592) (h'/35184372088832)) 255 (by omega) (by omega);generalize bits BinOp.and IntKind.i64 (bits BinOp.xor IntKind.i64 (h'/8589934592) (h'/35184372088832)) 255=x0 at hx HX ⊢;generalize bits BinOp.xor IntKind.i64 (h'/8589934592) (h'/35184372088832)=y0;go_wp2_with fail;go_quiet (fail);rename Nat=>nq'';go_wp2_with fail;go_quiet (fail);rw [HX.out];go_wp2_with fail;go_ret;have hg:=aq (nI (aq (az w (some p)) 2 (.int .i64 h')) (nq'+nq''+nq)) 1 (.int .i64 ((i:Int)+1));exact ⟨rfl,HS.out _ (i+1) h' HI.out HK.out (xp (v:=(w.setCell ⟨p,2,none⟩ (.int .i64 h')).drewN (nq'+nq''+nq)) (xd HH.out)) hg⟩
 ·have HX:Hid (bits BinOp.and IntKind.i64 (bits BinOp.xor IntKind.i64 (h'/8589934592) (h'/35184372088832)) 255=X):=by
   show _=_;rw [←hX,mW,if_neg (by omega),wy,←HK.out]
  have HI:Hid (i=min (k+1) len):=by show _=_;omega
  clear hlt hb hh hX hi;generalize hAt h0 k=hk at *;go_enter Tryz.func137,Tryz.ntmps137;go_wp2_with fail;rw [hh'];go_quiet (fail);rename Nat=>nq';rw [HX.out];generalize bits BinOp.xor IntKind.i64 (h'/8589934592) (h'/35184372088832)=y0;go_wp2_with fail;go_quiet (fail);go_wp2_with fail;go_ret;have hg:=nI (nI (aq (az w (some p)) 2 (.int .i64 h')) nq') nq;exact ⟨rfl,HS.out _ i h' HI.out HK.out (xd HH.out) hg⟩
def ee (f:Nat→Int) (n:Int) (k:Nat):Int × Nat:=if n≤256 then (f k%n,k+1) else ((f k*65536+f (k+1)*256+f (k+2))%n,k+3)
def jU (f:Nat→Int) (n:Int) (k:Nat):Bool × Nat:=((ee f n k).1 == 0,(ee f n k).2)
def qb (f:Nat→Int):Nat→Nat→Int→Int
 | 0,_,x=>x
 | m+1,k,x=>qb f m (k+1) (IntKind.u64.wrap (IntKind.u64.wrap (x*256)+f k))
def rK (f:Nat→Int) (k:Nat):Int × Nat:=(qb f 8 k 0,k+8)
def qJ (f:Nat→Int) (n k:Nat):List Int × Nat:=((List.range n).map fun j=>f (k+j),k+n)
theorem qc {f:Nat→Int} {n:Int} {k:Nat} (hn:1≤n):0≤(ee f n k).1∧(ee f n k).1<n:=by
 unfold ee;split
 ·exact ⟨Int.emod_nonneg _ (by omega),Int.emod_lt_of_pos _ (by omega)⟩
 ·exact ⟨Int.emod_nonneg _ (by omega),Int.emod_lt_of_pos _ (by omega)⟩
theorem bD (p:Nat) (f:Nat→Int) (k:Nat) (n:Int) (w:World) (h:CurN w p f k) (hn:1≤n) (hn':n≤16777216):
 Calls Tryz.prog 64 #[.pointer (some ⟨p,0,none⟩),.int .i64 n] w fun e w'=>∃x k',ee f n k=(x,k')∧(0≤x∧x<n)∧e=.returned (.int .i64 x)∧DrewN w p f k' w':=by
 have HB:Hid (∀j,0≤f j∧f j≤255):=fun j=>h.bd j;have HE:Hid (∀x k',(x,k')=ee f n k→ee f n k=(x,k')∧(0≤x∧x<n)):=fun x k' e=>by
  refine ⟨e.symm,?_⟩;have:=qc (f:=f) (k:=k) hn;rw [←e] at this;exact this
 by_cases hs:n≤256
 ·have hx:=HB.out k;have HX:Hid ((f k%n,k+1)=ee f n k):=by show _=_;rw [ee,if_pos hs]
  have HC:Hid _:=iw p f k w h;generalize f k=x at *;go_enter Tryz.func64,Tryz.ntmps64;go_wp2_with fail;refine Calls.mono HC.out ?_;rintro e v1 ⟨rfl,k1⟩;go_wp2_with fail;go_ret;obtain ⟨q1,q2⟩:=HE.out _ _ HX.out;exact ⟨_,_,q1,q2,rfl,k1⟩
 ·have hx:=HB.out k;have hy:=HB.out (k+1);have hz:=HB.out (k+2);have HX:Hid (((f k*65536+f (k+1)*256+f (k+2))%n,k+3)=ee f n k):=by show _=_;rw [ee,if_neg hs]
  have HC1:Hid _:=iw p f k w h;have HC2:Hid (∀u,CurN u p f (k+1)→Calls Tryz.prog 137 #[.pointer (some ⟨p,0,none⟩)] u fun e w'=>e=.returned (.int .i64 (f (k+1)))∧DrewN u p f (k+2) w'):=fun u hu=>iw p f (k+1) u hu;have HC3:Hid (∀u,CurN u p f (k+2)→Calls Tryz.prog 137 #[.pointer (some ⟨p,0,none⟩)] u fun e w'=>e=.returned (.int .i64 (f (k+2)))∧DrewN u p f (k+3) w'):=fun u hu=>iw p f (k+2) u hu;generalize f k=x at *;generalize f (k+1)=y at *;generalize f (k+2)=z at *;go_enter Tryz.func64,Tryz.ntmps64;go_wp2_with fail;refine Calls.mono HC1.out ?_;rintro e v1 ⟨rfl,k1⟩;go_wp2_with fail;refine (HC2.out v1 k1.1).mono ?_;rintro e v2 ⟨rfl,k2⟩;have k12:=k1.trans k2;clear k1 k2;go_wp2_with fail;refine (HC3.out v2 k12.1).mono ?_;rintro e v3 ⟨rfl,k3⟩;have k13:=k12.trans k3;clear k12 k3;go_wp2_with fail;go_ret;obtain ⟨q1,q2⟩:=HE.out _ _ HX.out;exact ⟨_,_,q1,q2,rfl,k13⟩
theorem dt (p:Nat) (f:Nat→Int) (k:Nat) (n:Int) (w:World) (h:CurN w p f k) (hn:1≤n) (hn':n≤16777216):
 Calls Tryz.prog 67 #[.pointer (some ⟨p,0,none⟩),.int .i64 n] w fun e w'=>∃x k',jU f n k=(x,k')∧e=.returned (.bool x)∧DrewN w p f k' w':=by
 go_enter Tryz.func67,Tryz.ntmps67;go_wp2_with fail;refine (bD p f k n w h hn hn').mono ?_;rintro e v1 ⟨x,k',e1,hx,rfl,k1⟩;have HE:Hid _:=e1;clear e1;go_wp2_with fail;go_ret;exact ⟨_,_,by rw [jU,HE.out],rfl,k1⟩
theorem kP (p:Nat) (f:Nat→Int) (k:Nat) (w:World) (h:CurN w p f k):
 Calls Tryz.prog 147 #[.pointer (some ⟨p,0,none⟩)] w fun e w'=>∃x k',rK f k=(x,k')∧(0≤x∧x≤18446744073709551615)∧e=.returned (.int .u64 x)∧DrewN w p f k' w':=by
 have HB:Hid (∀j,0≤f j∧f j≤255):=fun j=>h.bd j;go_enter Tryz.func147,Tryz.ntmps147;go_wp2_with fail;go_loopw [3,4] (fun xx kk wr=>∃(x:Int) (j:Nat),(0≤x∧x≤18446744073709551615)∧j≤8∧xx=.int .u64 x∧kk=.int .i64 j∧qb f (8-j) (k+j) x=qb f 8 k 0∧DrewN w p f (k+j) wr) (fun _ kk _=>8-(intOf kk).toNat)
 case atStart=>exact ⟨0,0,by omega,by omega,rfl,rfl,rfl,h,az _ _⟩
 case round=>
  obtain ⟨x,j,hx,hj,rfl,rfl,hw,hd⟩:=hrel;have HW:Hid _:=hw;clear hw;by_cases hlt:j<8
  ·have hy:=HB.out (k+j);have HC:Hid _:=iw p f (k+j) wr hd.1;have HY:Hid (qb f (8-(j+1)) (k+(j+1)) (IntKind.u64.wrap (IntKind.u64.wrap (x*256)+f (k+j)))=qb f 8 k 0):=by
    show _=_;rw [←HW.out,show 8-j=(8-(j+1))+1 by omega];rfl
   generalize f (k+j)=y at *;go_wp2_with fail;refine Calls.mono HC.out ?_;rintro e v1 ⟨rfl,k1⟩;have hd1:=hd.trans k1;clear hd k1;go_wp2_with fail;have hw:=aL (IntKind.u64.wrap (x*256)+y);go_roundw
   case rel=>exact ⟨_,j+1,hw,by omega,rfl,by go_num,HY.out,hd1⟩
   case measure=>simp [intOf];omega
  ·have hj8:j=8:=by omega
   subst hj8;go_wp2_with fail;go_ret;exact ⟨x,k+8,by rw [rK,←HW.out];rfl,hx,rfl,hd⟩
theorem ul (f:Nat→Int) (j k:Nat):(qJ f (j+1) k).1=(qJ f j k).1++[f (k+j)]:=by
 simp [qJ,List.range_succ]
set_option maxHeartbeats 800000 in
theorem wB (p:Nat) (f:Nat→Int) (k:Nat) (n:Nat) (w:World) (h:CurN w p f k) (hn:n≤1048576):
 Calls Tryz.prog 135 #[.pointer (some ⟨p,0,none⟩),.int .i64 n] w fun e w'=>
  ∃(g cp:Nat),e=.returned (.slice (some ⟨g,0,none⟩) n cp)∧OwnB 5 w' w.heap.size g n cp (qJ f n k).1∧DrewN w p f (k+n) w':=by
 have HB:Hid (∀j,0≤f j∧f j≤255):=fun j=>h.bd j;have hp:=h.lt;have o1:=OwnB.new 5 w [] 0 rfl (by decide);have n1:Below w.heap.size w (w.alloc (Obj.cells #[] 5)):=(Below.refl _ _).alloc (Nat.le_refl _) _;have d1:DrewN w p f k (w.alloc (Obj.cells #[] 5)):=DrewN.below ⟨h,az _ _⟩ n1 hp;simp only [List.map_nil] at o1;clear n1;go_enter Tryz.func135,Tryz.ntmps135;go_wp2_with fail;go_loopw [5,6] (fun vv kk wr=>∃(g cp j:Nat),j≤n∧vv=.slice (some ⟨g,0,none⟩) j cp∧kk=.int .i64 j∧OwnB 5 wr w.heap.size g j cp (qJ f j k).1∧DrewN w p f (k+j) wr) (fun _ kk _=>n-(intOf kk).toNat)
 case atStart=>exact ⟨_,_,0,Nat.zero_le _,rfl,rfl,o1,d1⟩
 case round=>
  obtain ⟨g,cp,j,hk,rfl,rfl,ho,hd⟩:=hrel;have fa:=ho.facts;clear o1 d1;by_cases hlt:j<n
  ·have hy:=HB.out (k+j);have HC:Hid _:=iw p f (k+j) wr hd.1;have HM:Hid ((qJ f (j+1) k).1=(qJ f j k).1++[f (k+j)]):=ul f j k;generalize (qJ f j k).1=zs at *;generalize f (k+j)=y at *;go_wp2_with fail;refine Calls.mono HC.out ?_;rintro e v1 ⟨rfl,k1⟩;have hd1:=hd.trans k1;have o2:=ho.gb k1.2 (by omega);have n2:Below w.heap.size v1 (v1.alloc (Obj.cells #[Value.int .u8 y] 5)):=(Below.refl _ _).alloc hd1.2.size _;have o3:=o2.keep ((Below.refl v1.heap.size v1).alloc (Nat.le_refl _) (Obj.cells #[Value.int .u8 y] 5)) o2.facts.2.2.1;have y3:=qw v1 5 y hy;clear hd k1 ho o2;go_wp2_with (at_builtin;refine eg _ rfl (.tmp 16) (.tmp 19) 22 rfl 5 Tryz.underlying22 Tryz.infoB w.heap.size _ _ _ _ rfl o3 v1.heap.size 0 1 1 [y] rfl y3 (by omega) _ _ n2 (Nat.le_refl _) ?_;intro g4 cp4 v4 o4 n4;clear o3 y3 n2);have hd4:=hd1.below n4 hp;go_roundw
   case rel=>exact ⟨g4,cp4,j+1,by omega,rfl,by go_num,by rw [HM.out];exact o4,hd4⟩
   case measure=>simp [intOf];omega
  ·have hkn:j=n:=by omega
   subst hkn;go_wp2_with fail;go_ret;exact ⟨g,cp,rfl,ho,hd⟩
end Go.Proofs.YthekickjjaleaaaGreat

namespace Go.Proofs.YthekickjjaleaaaGreat
set_option linter.unusedVariables false
def bS (x p:Int):Bool:=x/p%2 == 1
def cU (va:Int):Bool:=va/16384%1125899906842624 == 0 || va/16384%1125899906842624 == 1125899906842623
def dy (pte:Int):Int:=pte/1024%17592186044416
def fN (level:Int):Int:=if level=0 then 1 else if level=1 then 8 else 64
def ph (level:Int):Int:=if level=0 then 64 else if level=1 then 512 else 4096
def bC (pte level:Int):Int:=
 if level<0∨2<level∨bS pte 1=false∨0<pte/18014398509481984%1024∨(bS pte 4=true∧bS pte 2=false) then 0
 else if bS pte 2=false∧bS pte 4=false∧bS pte 8=false then
  (if level=0∨bS pte 16=true∨bS pte 64=true∨bS pte 128=true then 0 else 1)
 else if 0<dy pte%fN level then 0 else 2
def eE (pte kind mode:Int) (sum mxr:Bool):Bool:=
 (if kind=0 then bS pte 8 else if kind=1 then bS pte 2 || (mxr && bS pte 8) else if kind=2 then bS pte 4 && bS pte 128 else false) &&
 (if mode=0 then bS pte 16 else if mode=1 then !bS pte 16 || (kind != 0 && sum) else false) && bS pte 64
def jW (pte level va:Int):Int:=
 if level<0∨2<level then 0 else dy pte*64/ph level*ph level+va%ph level
end Go.Proofs.YthekickjjaleaaaGreat

namespace Go.Proofs.YthekickjjaleaaaGreat
open Go.RowKit
set_option linter.unusedVariables false
theorem w6 (k:Nat) (h:k≤62):1≤(2:Int)^k∧(2:Int)^k≤4611686018427387904:=by
 have h1:(2:Nat)^k≤2^62:=Nat.pow_le_pow_right (by omega) h;have h2:1≤(2:Nat)^k:=Nat.one_le_two_pow;have e:(2:Int)^k=((2^k:Nat):Int):=by push_cast;rfl
 rw [e];omega
theorem bO {a b:Int} (h:a=b):Ending.returned (.int .i64 a)=.returned (.int .i64 b):=by rw [h]
theorem aF {a b:Bool} (h:a=b):Ending.returned (.bool a)=.returned (.bool b):=by rw [h]
theorem uP (k:Nat):∀(n:Int) (w:World),n≤k→k≤63→n.toNat=k→
 Calls Tryz.prog 84 #[.int .i64 n] w fun e w'=>e=.returned (.int .u64 (2^k))∧w'=w:=by
 induction k with
 | zero=>
  intro n w h h' h'';have hn:n≤0:=by omega
  go_enter Tryz.func84,Tryz.ntmps84;go_wp2_with fail;go_ret;exact ⟨rfl,rfl⟩
 | succ k ih=>
  intro n w h h' h'';have hn:¬n≤0:=by omega
  have hb:=w6 k (by omega);have IH:Hid (∀(n:Int) (w:World),n≤k→k≤63→n.toNat=k→
   Calls Tryz.prog 84 #[.int .i64 n] w fun e w'=>e=.returned (.int .u64 (2^k))∧w'=w):=ih
  have HE:Hid ((2:Int)^(k+1)=2*2^k):=by show _=_;rw [Int.pow_succ,Int.mul_comm]
  rw [HE.out];clear ih HE;have H'':Hid (n.toNat=k+1):=h'';clear h'';generalize (2:Int)^k=p at *;go_enter Tryz.func84,Tryz.ntmps84;go_wp2_with fail;refine (IH.out (n-1) w (by omega) (by omega) (by have:=H''.out;omega)).mono ?_;rintro e w' ⟨rfl,rfl⟩;go_wp2_with fail;go_ret;exact ⟨rfl,rfl⟩
theorem aV (n p:Int) (w:World) (hn:n≤63) (hp:p=2^n.toNat):
 Calls Tryz.prog 84 #[.int .i64 n] w fun e w'=>e=.returned (.int .u64 p)∧w'=w:=by
 rw [hp];exact uP n.toNat n w (by omega) (by omega) rfl
set_option maxHeartbeats 400000 in
theorem bB (x i j p q:Int) (w:World) (h0:0≤x) (h1:x≤18446744073709551615) (hi:0≤i) (hi':i≤63) (hj:i≤j+1) (hj':j-i≤62) (hp:p=2^i.toNat) (hq:q=2^(j-i+1).toNat):
 Calls Tryz.prog 83 #[.int .u64 x,.int .i64 i,.int .i64 j] w fun e w'=>e=.returned (.int .u64 (x/p%q))∧∃n,w'=w.drewN n:=by
 have hp1:1≤p:=by rw [hp];exact Int.pow_pos (by omega:(0:Int)<2)
 have hq1:1≤q:=by rw [hq];exact Int.pow_pos (by omega:(0:Int)<2)
 have hxp:0≤x/p:=Int.ediv_nonneg h0 (by omega);have HP:Hid (p=2^i.toNat):=hp;have HQ:Hid (q=2^(j-i+1).toNat):=hq;clear hp hq;go_enter Tryz.func83,Tryz.ntmps83;go_wp2_with fail;go_quiet (first
  | (go_at_call_of 84 (Value.int IntKind.i64 i);exact Calls.quiet_of_same (aV i p _ (by omega) HP.out))
  | (go_at_call 84;exact Calls.quiet_of_same (aV (j-i+1) q _ (by omega) HQ.out)))
 go_wp2_with fail;go_ret;exact ⟨rfl,nq,rfl⟩
theorem bF (x i p:Int) (w:World) (h0:0≤x) (h1:x≤18446744073709551615) (hi:0≤i) (hi':i≤63) (hp:p=2^i.toNat):
 Calls Tryz.prog 104 #[.int .u64 x,.int .i64 i] w fun e w'=>e=.returned (.bool (bS x p))∧∃n,w'=w.drewN n:=by
 have HP:Hid (p=2^i.toNat):=hp;clear hp;go_enter Tryz.func104,Tryz.ntmps104;go_wp2_with fail;refine (bB x i i p 2 w h0 h1 hi hi' (by omega) (by omega) HP.out (by rw [show i-i+1=1 by omega];rfl)).mono ?_;rintro e w' ⟨rfl,nq,rfl⟩;go_wp2_with fail;go_ret;exact ⟨rfl,nq,rfl⟩
theorem cX (x:Int) (w:World) (h0:0≤x) (h1:x≤18446744073709551615):
 Calls Tryz.prog 79 #[.int .u64 x] w fun e w'=>e=.returned (.int .u64 (dy x))∧∃n,w'=w.drewN n:=by
 go_enter Tryz.func79,Tryz.ntmps79;go_wp2_with fail;refine (bB x 10 53 1024 17592186044416 w h0 h1 (by omega) (by omega) (by omega) (by omega) rfl rfl).mono ?_;rintro e w' ⟨rfl,nq,rfl⟩;go_wp2_with fail;go_ret;exact ⟨rfl,nq,rfl⟩
theorem di (x:Int) (w:World) (h0:0≤x) (h1:x≤18446744073709551615):
 Calls Tryz.prog 24 #[.int .u64 x] w fun e w'=>e=.returned (.bool (cU x))∧∃n,w'=w.drewN n:=by
 go_enter Tryz.func24,Tryz.ntmps24;go_wp2_with fail;refine (bB x 14 63 16384 1125899906842624 w h0 h1 (by omega) (by omega) (by omega) (by omega) rfl rfl).mono ?_;rintro e w' ⟨rfl,nq,rfl⟩;by_cases ht:x/16384%1125899906842624=0
 ·have ht':(x/16384%1125899906842624 == 0)=true:=by simp [ht]
  clear ht;go_wp2_with fail;go_ret;exact ⟨by simp [cU,ht'],nq,rfl⟩
 ·have ht':(x/16384%1125899906842624 == 0)=false:=by simpa using ht
  clear ht;go_wp2_with (go_at_call 84;refine (aV 50 1125899906842624 _ (by omega) rfl).mono ?_;rintro e w' ⟨rfl,rfl⟩);go_ret;exact ⟨by simp [cU,ht'],nq,rfl⟩
set_option maxHeartbeats 1600000 in
theorem eN (pte level:Int) (w:World) (h0:0≤pte) (h1:pte≤18446744073709551615) (hl: -9223372036854775808≤level) (hl':level≤9223372036854775807):
 Calls Tryz.prog 80 #[.int .u64 pte,.int .i64 level] w fun e w'=>e=.returned (.int .i64 (bC pte level))∧∃n,w'=w.drewN n:=by
 go_enter Tryz.func80,Tryz.ntmps80;go_wp2_with fail;refine (bF pte 1 2 w h0 h1 (by omega) (by omega) rfl).mono ?_;rintro e w' ⟨rfl,n1,rfl⟩;go_wp2_with fail;refine (bF pte 2 4 _ h0 h1 (by omega) (by omega) rfl).mono ?_;rintro e w' ⟨rfl,n2,rfl⟩;go_wp2_with fail;refine (bF pte 3 8 _ h0 h1 (by omega) (by omega) rfl).mono ?_;rintro e w' ⟨rfl,n3,rfl⟩;go_wp2_with fail;refine (bF pte 4 16 _ h0 h1 (by omega) (by omega) rfl).mono ?_;rintro e w' ⟨rfl,n4,rfl⟩;go_wp2_with fail;refine (bF pte 6 64 _ h0 h1 (by omega) (by omega) rfl).mono ?_;rintro e w' ⟨rfl,n5,rfl⟩;go_wp2_with fail;refine (bF pte 7 128 _ h0 h1 (by omega) (by omega) rfl).mono ?_;rintro e w' ⟨rfl,n6,rfl⟩;by_cases hlev:0≤level∧level≤2
 ·obtain ⟨hl0,hl2⟩:=hlev;cases hV:bS pte 1
  ·go_wp2_with (first
    | (go_at_call 104;refine (bF pte 0 1 _ h0 h1 (by omega) (by omega) rfl).mono ?_;rintro e w' ⟨rfl,n7,rfl⟩;rw [hV]))
   go_ret;exact ⟨bO (by simp [bC,hV]),_,rfl⟩
  ·by_cases hres:0<pte/18014398509481984%1024
   ·go_wp2_with (first
     | (go_at_call 104;refine (bF pte 0 1 _ h0 h1 (by omega) (by omega) rfl).mono ?_;rintro e w' ⟨rfl,n7,rfl⟩;rw [hV])
     | (go_at_call 83;refine (bB pte 54 63 18014398509481984 1024 _ h0 h1 (by omega) (by omega) (by omega) (by omega) rfl rfl).mono ?_;rintro e w' ⟨rfl,n8,rfl⟩))
    go_ret;exact ⟨bO (by simp [bC,hres]),_,rfl⟩
   ·have hres':decide (0<pte/18014398509481984%1024)=false:=by simpa using hres
    cases hr:bS pte 2 <;> cases hw:bS pte 4
    ·cases hx:bS pte 8
     ·cases hu:bS pte 16 <;> cases ha:bS pte 64 <;> cases hd:bS pte 128;all_goals
       rcases (show level=0∨level=1∨level=2 by omega) with rfl | rfl | rfl;all_goals
        go_wp2_with (first
         | (go_at_call 104;refine (bF pte 0 1 _ h0 h1 (by omega) (by omega) rfl).mono ?_;rintro e w' ⟨rfl,n7,rfl⟩;rw [hV])
         | (go_at_call 83;refine (bB pte 54 63 18014398509481984 1024 _ h0 h1 (by omega) (by omega) (by omega) (by omega) rfl rfl).mono ?_;rintro e w' ⟨rfl,n8,rfl⟩))
        go_ret;exact ⟨bO (by simp [bC,hV,hr,hw,hx,hu,ha,hd,hres]),_,rfl⟩
     ·
      obtain ⟨t,ht⟩:∃t,dy pte=t:=⟨_,rfl⟩;have hpp:0≤t:=by rw [←ht];exact Int.emod_nonneg _ (by omega)
      have HPP:Hid (dy pte=t):=ht;clear ht;rcases (show level=0∨level=1∨level=2 by omega) with rfl | rfl | rfl
      ·go_wp2_with (first
        | (go_at_call 104;refine (bF pte 0 1 _ h0 h1 (by omega) (by omega) rfl).mono ?_;rintro e w' ⟨rfl,n7,rfl⟩;rw [hV])
        | (go_at_call 83;refine (bB pte 54 63 18014398509481984 1024 _ h0 h1 (by omega) (by omega) (by omega) (by omega) rfl rfl).mono ?_;rintro e w' ⟨rfl,n8,rfl⟩)
        | (go_at_call 79;refine (cX pte _ h0 h1).mono ?_;rintro e w' ⟨rfl,n9,rfl⟩;rw [HPP.out])
        | (go_at_call 84;refine (aV _ 1 _ (by omega) rfl).mono ?_;rintro e w' ⟨rfl,rfl⟩))
       go_ret;exact ⟨bO (by simp [bC,hV,hr,hw,hx,hres,fN,Int.emod_one]),_,rfl⟩
      ·by_cases hm:0<t%8
       ·go_wp2_with (first
         | (go_at_call 104;refine (bF pte 0 1 _ h0 h1 (by omega) (by omega) rfl).mono ?_;rintro e w' ⟨rfl,n7,rfl⟩;rw [hV])
         | (go_at_call 83;refine (bB pte 54 63 18014398509481984 1024 _ h0 h1 (by omega) (by omega) (by omega) (by omega) rfl rfl).mono ?_;rintro e w' ⟨rfl,n8,rfl⟩)
         | (go_at_call 79;refine (cX pte _ h0 h1).mono ?_;rintro e w' ⟨rfl,n9,rfl⟩;rw [HPP.out])
         | (go_at_call 84;refine (aV _ 8 _ (by omega) rfl).mono ?_;rintro e w' ⟨rfl,rfl⟩))
        go_ret;exact ⟨bO (by simp [bC,hV,hr,hw,hx,show ¬0<pte/18014398509481984%1024 by omega,fN,HPP.out,hm]),_,rfl⟩
       ·go_wp2_with (first
         | (go_at_call 104;refine (bF pte 0 1 _ h0 h1 (by omega) (by omega) rfl).mono ?_;rintro e w' ⟨rfl,n7,rfl⟩;rw [hV])
         | (go_at_call 83;refine (bB pte 54 63 18014398509481984 1024 _ h0 h1 (by omega) (by omega) (by omega) (by omega) rfl rfl).mono ?_;rintro e w' ⟨rfl,n8,rfl⟩)
         | (go_at_call 79;refine (cX pte _ h0 h1).mono ?_;rintro e w' ⟨rfl,n9,rfl⟩;rw [HPP.out])
         | (go_at_call 84;refine (aV _ 8 _ (by omega) rfl).mono ?_;rintro e w' ⟨rfl,rfl⟩))
        go_ret;exact ⟨bO (by simp [bC,hV,hr,hw,hx,show ¬0<pte/18014398509481984%1024 by omega,show ¬0<t%8 by omega,fN,HPP.out]),_,rfl⟩
      ·by_cases hm:0<t%64
       ·go_wp2_with (first
         | (go_at_call 104;refine (bF pte 0 1 _ h0 h1 (by omega) (by omega) rfl).mono ?_;rintro e w' ⟨rfl,n7,rfl⟩;rw [hV])
         | (go_at_call 83;refine (bB pte 54 63 18014398509481984 1024 _ h0 h1 (by omega) (by omega) (by omega) (by omega) rfl rfl).mono ?_;rintro e w' ⟨rfl,n8,rfl⟩)
         | (go_at_call 79;refine (cX pte _ h0 h1).mono ?_;rintro e w' ⟨rfl,n9,rfl⟩;rw [HPP.out])
         | (go_at_call 84;refine (aV _ 64 _ (by omega) rfl).mono ?_;rintro e w' ⟨rfl,rfl⟩))
        go_ret;exact ⟨bO (by simp [bC,hV,hr,hw,hx,show ¬0<pte/18014398509481984%1024 by omega,fN,HPP.out,hm]),_,rfl⟩
       ·go_wp2_with (first
         | (go_at_call 104;refine (bF pte 0 1 _ h0 h1 (by omega) (by omega) rfl).mono ?_;rintro e w' ⟨rfl,n7,rfl⟩;rw [hV])
         | (go_at_call 83;refine (bB pte 54 63 18014398509481984 1024 _ h0 h1 (by omega) (by omega) (by omega) (by omega) rfl rfl).mono ?_;rintro e w' ⟨rfl,n8,rfl⟩)
         | (go_at_call 79;refine (cX pte _ h0 h1).mono ?_;rintro e w' ⟨rfl,n9,rfl⟩;rw [HPP.out])
         | (go_at_call 84;refine (aV _ 64 _ (by omega) rfl).mono ?_;rintro e w' ⟨rfl,rfl⟩))
        go_ret;exact ⟨bO (by simp [bC,hV,hr,hw,hx,show ¬0<pte/18014398509481984%1024 by omega,show ¬0<t%64 by omega,fN,HPP.out]),_,rfl⟩
    ·
     go_wp2_with (first
      | (go_at_call 104;refine (bF pte 0 1 _ h0 h1 (by omega) (by omega) rfl).mono ?_;rintro e w' ⟨rfl,n7,rfl⟩;rw [hV])
      | (go_at_call 83;refine (bB pte 54 63 18014398509481984 1024 _ h0 h1 (by omega) (by omega) (by omega) (by omega) rfl rfl).mono ?_;rintro e w' ⟨rfl,n8,rfl⟩))
     go_ret;exact ⟨bO (by simp [bC,hr,hw]),_,rfl⟩
    ·
     obtain ⟨t,ht⟩:∃t,dy pte=t:=⟨_,rfl⟩;have hpp:0≤t:=by rw [←ht];exact Int.emod_nonneg _ (by omega)
     have HPP:Hid (dy pte=t):=ht;clear ht;rcases (show level=0∨level=1∨level=2 by omega) with rfl | rfl | rfl
     ·go_wp2_with (first
       | (go_at_call 104;refine (bF pte 0 1 _ h0 h1 (by omega) (by omega) rfl).mono ?_;rintro e w' ⟨rfl,n7,rfl⟩;rw [hV])
       | (go_at_call 83;refine (bB pte 54 63 18014398509481984 1024 _ h0 h1 (by omega) (by omega) (by omega) (by omega) rfl rfl).mono ?_;rintro e w' ⟨rfl,n8,rfl⟩)
       | (go_at_call 79;refine (cX pte _ h0 h1).mono ?_;rintro e w' ⟨rfl,n9,rfl⟩;rw [HPP.out])
       | (go_at_call 84;refine (aV _ 1 _ (by omega) rfl).mono ?_;rintro e w' ⟨rfl,rfl⟩))
      go_ret;exact ⟨bO (by simp [bC,hV,hr,hw,hres,fN,Int.emod_one]),_,rfl⟩
     ·by_cases hm:0<t%8
      ·go_wp2_with (first
        | (go_at_call 104;refine (bF pte 0 1 _ h0 h1 (by omega) (by omega) rfl).mono ?_;rintro e w' ⟨rfl,n7,rfl⟩;rw [hV])
        | (go_at_call 83;refine (bB pte 54 63 18014398509481984 1024 _ h0 h1 (by omega) (by omega) (by omega) (by omega) rfl rfl).mono ?_;rintro e w' ⟨rfl,n8,rfl⟩)
        | (go_at_call 79;refine (cX pte _ h0 h1).mono ?_;rintro e w' ⟨rfl,n9,rfl⟩;rw [HPP.out])
        | (go_at_call 84;refine (aV _ 8 _ (by omega) rfl).mono ?_;rintro e w' ⟨rfl,rfl⟩))
       go_ret;exact ⟨bO (by simp [bC,hV,hr,hw,show ¬0<pte/18014398509481984%1024 by omega,fN,HPP.out,hm]),_,rfl⟩
      ·go_wp2_with (first
        | (go_at_call 104;refine (bF pte 0 1 _ h0 h1 (by omega) (by omega) rfl).mono ?_;rintro e w' ⟨rfl,n7,rfl⟩;rw [hV])
        | (go_at_call 83;refine (bB pte 54 63 18014398509481984 1024 _ h0 h1 (by omega) (by omega) (by omega) (by omega) rfl rfl).mono ?_;rintro e w' ⟨rfl,n8,rfl⟩)
        | (go_at_call 79;refine (cX pte _ h0 h1).mono ?_;rintro e w' ⟨rfl,n9,rfl⟩;rw [HPP.out])
        | (go_at_call 84;refine (aV _ 8 _ (by omega) rfl).mono ?_;rintro e w' ⟨rfl,rfl⟩))
       go_ret;exact ⟨bO (by simp [bC,hV,hr,hw,show ¬0<pte/18014398509481984%1024 by omega,show ¬0<t%8 by omega,fN,HPP.out]),_,rfl⟩
     ·by_cases hm:0<t%64
      ·go_wp2_with (first
        | (go_at_call 104;refine (bF pte 0 1 _ h0 h1 (by omega) (by omega) rfl).mono ?_;rintro e w' ⟨rfl,n7,rfl⟩;rw [hV])
        | (go_at_call 83;refine (bB pte 54 63 18014398509481984 1024 _ h0 h1 (by omega) (by omega) (by omega) (by omega) rfl rfl).mono ?_;rintro e w' ⟨rfl,n8,rfl⟩)
        | (go_at_call 79;refine (cX pte _ h0 h1).mono ?_;rintro e w' ⟨rfl,n9,rfl⟩;rw [HPP.out])
        | (go_at_call 84;refine (aV _ 64 _ (by omega) rfl).mono ?_;rintro e w' ⟨rfl,rfl⟩))
       go_ret;exact ⟨bO (by simp [bC,hV,hr,hw,show ¬0<pte/18014398509481984%1024 by omega,fN,HPP.out,hm]),_,rfl⟩
      ·go_wp2_with (first
        | (go_at_call 104;refine (bF pte 0 1 _ h0 h1 (by omega) (by omega) rfl).mono ?_;rintro e w' ⟨rfl,n7,rfl⟩;rw [hV])
        | (go_at_call 83;refine (bB pte 54 63 18014398509481984 1024 _ h0 h1 (by omega) (by omega) (by omega) (by omega) rfl rfl).mono ?_;rintro e w' ⟨rfl,n8,rfl⟩)
        | (go_at_call 79;refine (cX pte _ h0 h1).mono ?_;rintro e w' ⟨rfl,n9,rfl⟩;rw [HPP.out])
        | (go_at_call 84;refine (aV _ 64 _ (by omega) rfl).mono ?_;rintro e w' ⟨rfl,rfl⟩))
       go_ret;exact ⟨bO (by simp [bC,hV,hr,hw,show ¬0<pte/18014398509481984%1024 by omega,show ¬0<t%64 by omega,fN,HPP.out]),_,rfl⟩
    ·
     obtain ⟨t,ht⟩:∃t,dy pte=t:=⟨_,rfl⟩;have hpp:0≤t:=by rw [←ht];exact Int.emod_nonneg _ (by omega)
     have HPP:Hid (dy pte=t):=ht;clear ht;rcases (show level=0∨level=1∨level=2 by omega) with rfl | rfl | rfl
     ·go_wp2_with (first
       | (go_at_call 104;refine (bF pte 0 1 _ h0 h1 (by omega) (by omega) rfl).mono ?_;rintro e w' ⟨rfl,n7,rfl⟩;rw [hV])
       | (go_at_call 83;refine (bB pte 54 63 18014398509481984 1024 _ h0 h1 (by omega) (by omega) (by omega) (by omega) rfl rfl).mono ?_;rintro e w' ⟨rfl,n8,rfl⟩)
       | (go_at_call 79;refine (cX pte _ h0 h1).mono ?_;rintro e w' ⟨rfl,n9,rfl⟩;rw [HPP.out])
       | (go_at_call 84;refine (aV _ 1 _ (by omega) rfl).mono ?_;rintro e w' ⟨rfl,rfl⟩))
      go_ret;exact ⟨bO (by simp [bC,hV,hr,hw,hres,fN,Int.emod_one]),_,rfl⟩
     ·by_cases hm:0<t%8
      ·go_wp2_with (first
        | (go_at_call 104;refine (bF pte 0 1 _ h0 h1 (by omega) (by omega) rfl).mono ?_;rintro e w' ⟨rfl,n7,rfl⟩;rw [hV])
        | (go_at_call 83;refine (bB pte 54 63 18014398509481984 1024 _ h0 h1 (by omega) (by omega) (by omega) (by omega) rfl rfl).mono ?_;rintro e w' ⟨rfl,n8,rfl⟩)
        | (go_at_call 79;refine (cX pte _ h0 h1).mono ?_;rintro e w' ⟨rfl,n9,rfl⟩;rw [HPP.out])
        | (go_at_call 84;refine (aV _ 8 _ (by omega) rfl).mono ?_;rintro e w' ⟨rfl,rfl⟩))
       go_ret;exact ⟨bO (by simp [bC,hV,hr,hw,show ¬0<pte/18014398509481984%1024 by omega,fN,HPP.out,hm]),_,rfl⟩
      ·go_wp2_with (first
        | (go_at_call 104;refine (bF pte 0 1 _ h0 h1 (by omega) (by omega) rfl).mono ?_;rintro e w' ⟨rfl,n7,rfl⟩;rw [hV])
        | (go_at_call 83;refine (bB pte 54 63 18014398509481984 1024 _ h0 h1 (by omega) (by omega) (by omega) (by omega) rfl rfl).mono ?_;rintro e w' ⟨rfl,n8,rfl⟩)
        | (go_at_call 79;refine (cX pte _ h0 h1).mono ?_;rintro e w' ⟨rfl,n9,rfl⟩;rw [HPP.out])
        | (go_at_call 84;refine (aV _ 8 _ (by omega) rfl).mono ?_;rintro e w' ⟨rfl,rfl⟩))
       go_ret;exact ⟨bO (by simp [bC,hV,hr,hw,show ¬0<pte/18014398509481984%1024 by omega,show ¬0<t%8 by omega,fN,HPP.out]),_,rfl⟩
     ·by_cases hm:0<t%64
      ·go_wp2_with (first
        | (go_at_call 104;refine (bF pte 0 1 _ h0 h1 (by omega) (by omega) rfl).mono ?_;rintro e w' ⟨rfl,n7,rfl⟩;rw [hV])
        | (go_at_call 83;refine (bB pte 54 63 18014398509481984 1024 _ h0 h1 (by omega) (by omega) (by omega) (by omega) rfl rfl).mono ?_;rintro e w' ⟨rfl,n8,rfl⟩)
        | (go_at_call 79;refine (cX pte _ h0 h1).mono ?_;rintro e w' ⟨rfl,n9,rfl⟩;rw [HPP.out])
        | (go_at_call 84;refine (aV _ 64 _ (by omega) rfl).mono ?_;rintro e w' ⟨rfl,rfl⟩))
       go_ret;exact ⟨bO (by simp [bC,hV,hr,hw,show ¬0<pte/18014398509481984%1024 by omega,fN,HPP.out,hm]),_,rfl⟩
      ·go_wp2_with (first
        | (go_at_call 104;refine (bF pte 0 1 _ h0 h1 (by omega) (by omega) rfl).mono ?_;rintro e w' ⟨rfl,n7,rfl⟩;rw [hV])
        | (go_at_call 83;refine (bB pte 54 63 18014398509481984 1024 _ h0 h1 (by omega) (by omega) (by omega) (by omega) rfl rfl).mono ?_;rintro e w' ⟨rfl,n8,rfl⟩)
        | (go_at_call 79;refine (cX pte _ h0 h1).mono ?_;rintro e w' ⟨rfl,n9,rfl⟩;rw [HPP.out])
        | (go_at_call 84;refine (aV _ 64 _ (by omega) rfl).mono ?_;rintro e w' ⟨rfl,rfl⟩))
       go_ret;exact ⟨bO (by simp [bC,hV,hr,hw,show ¬0<pte/18014398509481984%1024 by omega,show ¬0<t%64 by omega,fN,HPP.out]),_,rfl⟩
 ·by_cases hneg:level<0
  ·go_wp2_with fail;go_ret;exact ⟨bO (by simp [bC,hneg]),_,rfl⟩
  ·have hgt:2<level:=by omega
   go_wp2_with fail;go_ret;exact ⟨bO (by simp [bC,hgt]),_,rfl⟩
end Go.Proofs.YthekickjjaleaaaGreat
