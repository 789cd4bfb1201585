import Derived.Test.YtaoaifmkhbgaiaaGreatPk01
namespace Go.Proofs.YtaoaifmkhbgaiaaGreat
open Go.RowKit
set_option linter.unusedVariables false
def Cur (T:TypeId) (w:World) (p:Nat) (a:Option Addr) (len cap:Nat) (code:List Int):Prop:=
 ∃(i:Nat) (h:Int),i≤len∧w.heap[p]?=some (.cells #[.slice a len cap,.int .i64 i,.int .i64 h] T (0,0))∧Byt w a len code∧(0<len→∀x,a=some x→x.block<p)∧len≤1048576
theorem Cur.lt {T:TypeId} {w:World} {p:Nat} {a:Option Addr} {len cap:Nat} {code:List Int} (h:Cur T w p a len cap code):p<w.heap.size:=by
 obtain ⟨_,_,_,hh,_⟩:=h;exact (Array.getElem?_eq_some_iff.1 hh).1
theorem kc (x m:Int) (h0:0≤m) (hm:m<9223372036854775808):0≤bits .and .i64 x m∧bits .and .i64 x m≤m:=by
 obtain ⟨m,rfl⟩:=Int.eq_ofNat_of_zero_le h0;have e:bits .and .i64 x m=IntKind.i64.wrap (((BitVec.ofInt 64 x).toNat &&& m:Nat):Int):=by
  unfold bits;show IntKind.i64.wrap ((BitVec.ofInt 64 x &&& BitVec.ofInt 64 (m:Int)).toNat:Int)=_;rw [BitVec.toNat_and,BitVec.ofInt_natCast,BitVec.toNat_ofNat,Nat.mod_eq_of_lt (by omega)]
 have hle:(BitVec.ofInt 64 x).toNat &&& m≤m:=Nat.and_le_right;rw [e];generalize (BitVec.ofInt 64 x).toNat &&& m=t at hle;simp only [IntKind.wrap,IntKind.signed,IntKind.bits];simp;omega
theorem Cur.step {T:TypeId} {w v:World} {p:Nat} {a:Option Addr} {len cap:Nat} {code:List Int} {i i':Nat} {h h':Int}
 (hh:w.heap[p]?=some (.cells #[.slice a len cap,.int .i64 i,.int .i64 h] T (0,0))) (hb:Byt w a len code) (hlt:0<len→∀x,a=some x→x.block<p) (hl:len≤1048576) (hi:i'≤len)
 (hv:v.heap[p]?=some (.cells #[.slice a len cap,.int .i64 i',.int .i64 h'] T (0,0))) (hg:w.grownBy v (some p)):Cur T v p a len cap code:=by
 refine ⟨i',h',hi,hv,?_,hlt,hl⟩;obtain ⟨h1,h2,h3⟩:=hb;refine ⟨h1,h2,?_⟩;by_cases h0:len=0
 ·exact .inl h0
 rcases h3 with h3 | ⟨b,off,rfl,hbw,hc⟩
 ·exact .inl h3
 ·have hbp:b<p:=hlt (by omega) ⟨b,off,none⟩ rfl;exact .inr ⟨b,off,rfl,Nat.lt_of_lt_of_le hbw hg.size,fun j hj=>(World.cell?_of_block (hg.block b hbw (by simp;omega))).trans (hc j hj)⟩
theorem qT {w v:World} {r:Option Nat} (h:w.grownBy v r) (n:Nat):w.grownBy (v.drewN n) r:=⟨h.os,h.tape,h.output,h.size,h.block⟩
theorem Bp {v:World} {p:Nat} {T:TypeId} {a b c u:Value} (h:v.heap[p]?=some (.cells #[a,b,c] T (0,0))):(v.setCell ⟨p,1,none⟩ u).heap[p]?=some (.cells #[a,u,c] T (0,0)):=by
 simp [World.setCell,Array.getElem?_modify,h]
theorem AZ {v:World} {p:Nat} {T:TypeId} {a b c u:Value} (h:v.heap[p]?=some (.cells #[a,b,c] T (0,0))):(v.setCell ⟨p,2,none⟩ u).heap[p]?=some (.cells #[a,b,u] T (0,0)):=by
 simp [World.setCell,Array.getElem?_modify,h]
theorem cJ {w v u:World} {r:Option Nat} (h:w.grownBy v r) (k:v.grownBy u r):w.grownBy u r:=
 ⟨k.os.trans h.os,k.tape.trans h.tape,k.output.trans h.output,Nat.le_trans h.size k.size,fun i hi hn=>(k.block i (Nat.lt_of_lt_of_le hi h.size) hn).trans (h.block i hi hn)⟩
theorem aR (n:Int):0≤IntKind.u64.wrap n∧IntKind.u64.wrap n≤18446744073709551615:=by
 simp only [IntKind.wrap,IntKind.signed,IntKind.bits];simp;omega
def Drew (T:TypeId) (w:World) (p:Nat) (a:Option Addr) (len cap:Nat) (code:List Int) (w':World):Prop:=Cur T w' p a len cap code∧w.grownBy w' (some p)
theorem Drew.trans {T:TypeId} {w v u:World} {p:Nat} {a:Option Addr} {len cap:Nat} {code:List Int} (h:Drew T w p a len cap code v) (k:Drew T v p a len cap code u):Drew T w p a len cap code u:=⟨k.1,cJ h.2 k.2⟩
theorem Cur.below {T:TypeId} {B:Nat} {w v:World} {p:Nat} {a:Option Addr} {len cap:Nat} {code:List Int} (h:Cur T w p a len cap code) (hb:Below B w v) (hp:p<B):Cur T v p a len cap code:=by
 obtain ⟨i,hh,hi,hv,⟨h1,h2,h3⟩,hlt,hl⟩:=h;refine ⟨i,hh,hi,by rw [hb.block p hp];exact hv,⟨h1,h2,?_⟩,hlt,hl⟩;by_cases h0:len=0
 ·exact .inl h0
 rcases h3 with h3 | ⟨b,off,rfl,hbw,hc⟩
 ·exact .inl h3
 ·have hbp:b<p:=hlt (by omega) ⟨b,off,none⟩ rfl;exact .inr ⟨b,off,rfl,Nat.lt_of_lt_of_le hbw hb.size,fun j hj=>(hb.cell (p:=⟨b,off+j,none⟩) (Nat.lt_trans hbp hp)).trans (hc j hj)⟩
theorem Drew.below {T:TypeId} {w v u:World} {p:Nat} {a:Option Addr} {len cap:Nat} {code:List Int} (h:Drew T w p a len cap code v) (hb:Below w.heap.size v u) (hp:p<w.heap.size):Drew T w p a len cap code u:=by
 refine ⟨h.1.below hb hp,⟨hb.os.trans h.2.os,hb.tape.trans h.2.tape,hb.output.trans h.2.output,Nat.le_trans h.2.size hb.size,fun i hi hn=>(hb.block i hi).trans (h.2.block i hi hn)⟩⟩
theorem OwnB.gb {e:TypeId} {w w':World} {base g n cap r:Nat} {zs:List Int} (h:OwnB e w base g n cap zs) (hg:w.grownBy w' (some r)) (hne:g≠r):OwnB e w' base g n cap zs:=by
 obtain ⟨h1,h2⟩:=h;refine ⟨h1,?_⟩;rcases h2 with ⟨h2,_⟩ | ⟨g',cap',cur,h2,hb',hh,r'⟩
 ·simp at h2
 ·have hh':=h2;simp at hh';obtain ⟨rfl,rfl⟩:=hh';exact .inr ⟨_,_,cur,h2,hb',by rw [hg.block _ (Array.getElem?_eq_some_iff.1 hh).1 (by simpa using hne)];exact hh,r'⟩
theorem tT (w:World) (e:TypeId) (z:Int) (hz:0≤z∧z≤255):Byt (w.alloc (.cells #[.int .u8 z] e)) (some ⟨w.heap.size,0,none⟩) 1 [z]:=
 (OwnB.new e w [z] 1 rfl (by decide)).byt (fun i=>by cases i <;> simp [hz])
end Go.Proofs.YtaoaifmkhbgaiaaGreat

namespace Go.Proofs.YtaoaifmkhbgaiaaGreat
open Go.RowKit
set_option linter.unusedVariables false
def Bf (h:Int):Int:=wrap64 (wrap64 (h*6364136223846793005)+1442695040888963407)
def Aj (h:Int):Int:=bits BinOp.and IntKind.i64 (bits BinOp.xor IntKind.i64 (h/8589934592) (h/35184372088832)) 255
def hAt (h0:Int):Nat→Int
 | 0=>h0
 | k+1=>Bf (hAt h0 k)
def oH (code:List Int) (h0:Int) (k:Nat):Int:=
 if k<code.length then bits BinOp.and IntKind.i64 (Aj (hAt h0 (k+1))+code[k]?.getD 0) 255 else Aj (hAt h0 (k+1))
theorem Ak (code:List Int) (h0:Int) (k:Nat):0≤oH code h0 k∧oH code h0 k≤255:=by
 unfold oH;split
 ·exact kc _ 255 (by omega) (by omega)
 ·exact kc _ 255 (by omega) (by omega)
def CurN (w:World) (p:Nat) (f:Nat→Int) (k:Nat):Prop:=
 ∃(a:Option Addr) (len cap:Nat) (code:List Int) (h0:Int),f=oH code h0∧w.heap[p]?=some (.cells #[.slice a len cap,.int .i64 ((min k len:Nat):Int),.int .i64 (hAt h0 k)] 139 (0,0))∧Byt w a len code∧(0<len→∀x,a=some x→x.block<p)∧len≤1048576
def DrewN (w:World) (p:Nat) (f:Nat→Int) (k:Nat) (w':World):Prop:=CurN w' p f k∧w.grownBy w' (some p)
theorem CurN.bd {w:World} {p:Nat} {f:Nat→Int} {k:Nat} (h:CurN w p f k) (j:Nat):0≤f j∧f j≤255:=by
 obtain ⟨_,_,_,code,h0,rfl,_⟩:=h;exact Ak code h0 j
theorem CurN.lt {w:World} {p:Nat} {f:Nat→Int} {k:Nat} (h:CurN w p f k):p<w.heap.size:=by
 obtain ⟨_,_,_,_,_,_,hh,_⟩:=h;exact (Array.getElem?_eq_some_iff.1 hh).1
theorem CurN.below {B:Nat} {w v:World} {p:Nat} {f:Nat→Int} {k:Nat} (h:CurN w p f k) (hb:Below B w v) (hp:p<B):CurN v p f k:=by
 obtain ⟨a,len,cap,code,h0,hf,hh,⟨h1,h2,h3⟩,hlt,hl⟩:=h;refine ⟨a,len,cap,code,h0,hf,by rw [hb.block p hp];exact hh,⟨h1,h2,?_⟩,hlt,hl⟩;by_cases h0:len=0
 ·exact .inl h0
 rcases h3 with h3 | ⟨b,off,rfl,hbw,hc⟩
 ·exact .inl h3
 ·have hbp:b<p:=hlt (by omega) ⟨b,off,none⟩ rfl;exact .inr ⟨b,off,rfl,Nat.lt_of_lt_of_le hbw hb.size,fun j hj=>(hb.cell (p:=⟨b,off+j,none⟩) (Nat.lt_trans hbp hp)).trans (hc j hj)⟩
theorem DrewN.trans {w v u:World} {p:Nat} {f:Nat→Int} {k k':Nat} (h:DrewN w p f k v) (h':DrewN v p f k' u):DrewN w p f k' u:=⟨h'.1,cJ h.2 h'.2⟩
theorem DrewN.below {w v u:World} {p:Nat} {f:Nat→Int} {k:Nat} (h:DrewN w p f k v) (hb:Below w.heap.size v u) (hp:p<w.heap.size):DrewN w p f k u:=
 ⟨h.1.below hb hp,⟨hb.os.trans h.2.os,hb.tape.trans h.2.tape,hb.output.trans h.2.output,Nat.le_trans h.2.size hb.size,fun i hi hn=>(hb.block i hi).trans (h.2.block i hi hn)⟩⟩
theorem DrewN.refl {w:World} {p:Nat} {f:Nat→Int} {k:Nat} (h:CurN w p f k):DrewN w p f k w:=⟨h,aE _ _⟩
theorem yv {w v:World} {p:Nat} {a:Option Addr} {len cap:Nat} {code:List Int} {k:Nat} {h0:Int} {o:Obj}
 (hh:w.heap[p]?=some o) (hb:Byt w a len code) (hlt:0<len→∀x,a=some x→x.block<p) (hl:len≤1048576)
 (hv:v.heap[p]?=some (.cells #[.slice a len cap,.int .i64 ((min (k+1) len:Nat):Int),.int .i64 (hAt h0 (k+1))] 139 (0,0))) (hg:w.grownBy v (some p)):DrewN w p (oH code h0) (k+1) v:=by
 refine ⟨⟨a,len,cap,code,h0,rfl,hv,?_,hlt,hl⟩,hg⟩;obtain ⟨h1,h2,h3⟩:=hb;refine ⟨h1,h2,?_⟩;by_cases h0:len=0
 ·exact .inl h0
 rcases h3 with h3 | ⟨b,off,rfl,hbw,hc⟩
 ·exact .inl h3
 ·have hbp:b<p:=hlt (by omega) ⟨b,off,none⟩ rfl;refine .inr ⟨b,off,rfl,Nat.lt_of_lt_of_le hbw hg.size,fun j hj=>?_⟩;rw [←hc j hj];unfold World.cell?;rw [hg.block b hbw (by simp;omega)]
set_option maxHeartbeats 800000 in
theorem jO (p:Nat) (f:Nat→Int) (k:Nat) (w:World) (h:CurN w p f k):
 Calls Tryz.prog 83 #[.pointer (some ⟨p,0,none⟩)] w fun e w'=>e=.returned (.int .i64 (f k))∧DrewN w p f (k+1) w':=by
 obtain ⟨a,len,cap,code,h0,rfl,hh,hb,hlt,hl⟩:=h;have c0:w.cell? ⟨p,0,none⟩=some (.slice a len cap):=by simp [World.cell?,hh]
 have c1:w.cell? ⟨p,1,none⟩=some (.int .i64 ((min k len:Nat):Int)):=by simp [World.cell?,hh]
 have c2:w.cell? ⟨p,2,none⟩=some (.int .i64 (hAt h0 k)):=by simp [World.cell?,hh]
 have f1:w.frozen? ⟨p,1,none⟩=false:=by simp [World.frozen?,hh]
 have f2:w.frozen? ⟨p,2,none⟩=false:=by simp [World.frozen?,hh]
 have hlen:=hb.1;obtain ⟨i,hi⟩:∃i,min k len=i:=⟨_,rfl⟩;rw [hi] at c1 hh;obtain ⟨X,hX⟩:∃X,oH code h0 k=X:=⟨_,rfl⟩;rw [hX];have HS:Hid (∀(v:World) (i':Nat) (h':Int),i'=min (k+1) len→h'=hAt h0 (k+1)→v.heap[p]?=some (.cells #[.slice a len cap,.int .i64 i',.int .i64 h'] 139 (0,0))→w.grownBy v (some p)→DrewN w p (oH code h0) (k+1) v):=
  fun v i' h' hi' hh' hv hg=>yv hh hb hlt hl (by subst hi' hh';exact hv) hg
 have HH:Hid _:=hh;obtain ⟨h',hh'⟩:∃h',wrap64 (wrap64 (hAt h0 k*6364136223846793005)+1442695040888963407)=h':=⟨_,rfl⟩;have HK:Hid (h'=hAt h0 (k+1)):=hh'.symm;by_cases hil:i<len
 ·rcases hb.2.2 with h3 | ⟨b,off,rfl,hbw,hc⟩
  ·omega
  have g1:=hc i hil;have g2:=hb.2.1 i;have hbp:b<p:=hlt (by omega) ⟨b,off,none⟩ rfl;obtain ⟨z,hz⟩:∃z,z=code[i]?.getD 0:=⟨_,rfl⟩;rw [←hz] at g1 g2;have hbp':b≠p:=by omega
  have hik:i=k:=by omega
  have HX:Hid (bits BinOp.and IntKind.i64 (bits BinOp.and IntKind.i64 (bits BinOp.xor IntKind.i64 (h'/8589934592) (h'/35184372088832)) 255+z) 255=X):=by
   show _=_;rw [←hX,oH,if_pos (by omega),Aj,←HK.out,hz,hik]
  have HI:Hid (i+1=min (k+1) len):=by show _=_;omega
  clear hc hz hlt hb hh hX hik hi;generalize hAt h0 k=hk at *;go_enter Tryz.func83,Tryz.ntmps83;go_wp2_with fail;rw [hh'];go_quiet (fail);rename Nat=>nq';have hx:=kc (bits BinOp.xor IntKind.i64 (h'/8589934592) (h'/35184372088832)) 255 (by omega) (by omega);generalize bits BinOp.and IntKind.i64 (bits BinOp.xor IntKind.i64 (h'/8589934592) (h'/35184372088832)) 255=x0 at hx HX ⊢;generalize bits BinOp.xor IntKind.i64 (h'/8589934592) (h'/35184372088832)=y0;go_wp2_with fail;go_quiet (fail);rename Nat=>nq'';go_wp2_with fail;go_quiet (fail);rw [HX.out];go_wp2_with fail;go_ret;have hg:=ax (qT (ax (aE w (some p)) 2 (.int .i64 h')) (nq'+nq''+nq)) 1 (.int .i64 ((i:Int)+1));exact ⟨rfl,HS.out _ (i+1) h' HI.out HK.out (Bp (v:=(w.setCell ⟨p,2,none⟩ (.int .i64 h')).drewN (nq'+nq''+nq)) (AZ HH.out)) hg⟩
 ·have HX:Hid (bits BinOp.and IntKind.i64 (bits BinOp.xor IntKind.i64 (h'/8589934592) (h'/35184372088832)) 255=X):=by
   show _=_;rw [←hX,oH,if_neg (by omega),Aj,←HK.out]
  have HI:Hid (i=min (k+1) len):=by show _=_;omega
  clear hlt hb hh hX hi;generalize hAt h0 k=hk at *;go_enter Tryz.func83,Tryz.ntmps83;go_wp2_with fail;rw [hh'];go_quiet (fail);rename Nat=>nq';rw [HX.out];generalize bits BinOp.xor IntKind.i64 (h'/8589934592) (h'/35184372088832)=y0;go_wp2_with fail;go_quiet (fail);go_wp2_with fail;go_ret;have hg:=qT (qT (ax (aE w (some p)) 2 (.int .i64 h')) nq') nq;exact ⟨rfl,HS.out _ i h' HI.out HK.out (AZ HH.out) hg⟩
def eY (f:Nat→Int) (n:Int) (k:Nat):Int × Nat:=if n≤256 then (f k%n,k+1) else ((f k*65536+f (k+1)*256+f (k+2))%n,k+3)
def mS (f:Nat→Int) (n:Int) (k:Nat):Bool × Nat:=((eY f n k).1 == 0,(eY f n k).2)
def tp (f:Nat→Int):Nat→Nat→Int→Int
 | 0,_,x=>x
 | m+1,k,x=>tp f m (k+1) (IntKind.u64.wrap (IntKind.u64.wrap (x*256)+f k))
def u4 (f:Nat→Int) (k:Nat):Int × Nat:=(tp f 8 k 0,k+8)
def uc (f:Nat→Int) (n k:Nat):List Int × Nat:=((List.range n).map fun j=>f (k+j),k+n)
theorem tq {f:Nat→Int} {n:Int} {k:Nat} (hn:1≤n):0≤(eY f n k).1∧(eY f n k).1<n:=by
 unfold eY;split
 ·exact ⟨Int.emod_nonneg _ (by omega),Int.emod_lt_of_pos _ (by omega)⟩
 ·exact ⟨Int.emod_nonneg _ (by omega),Int.emod_lt_of_pos _ (by omega)⟩
theorem aX (p:Nat) (f:Nat→Int) (k:Nat) (n:Int) (w:World) (h:CurN w p f k) (hn:1≤n) (hn':n≤16777216):
 Calls Tryz.prog 30 #[.pointer (some ⟨p,0,none⟩),.int .i64 n] w fun e w'=>∃x k',eY f n k=(x,k')∧(0≤x∧x<n)∧e=.returned (.int .i64 x)∧DrewN w p f k' w':=by
 have HB:Hid (∀j,0≤f j∧f j≤255):=fun j=>h.bd j;have HE:Hid (∀x k',(x,k')=eY f n k→eY f n k=(x,k')∧(0≤x∧x<n)):=fun x k' e=>by
  refine ⟨e.symm,?_⟩;have:=tq (f:=f) (k:=k) hn;rw [←e] at this;exact this
 by_cases hs:n≤256
 ·have hx:=HB.out k;have HX:Hid ((f k%n,k+1)=eY f n k):=by show _=_;rw [eY,if_pos hs]
  have HC:Hid _:=jO p f k w h;generalize f k=x at *;go_enter Tryz.func30,Tryz.ntmps30;go_wp2_with fail;refine Calls.mono HC.out ?_;rintro e v1 ⟨rfl,k1⟩;go_wp2_with fail;go_ret;obtain ⟨q1,q2⟩:=HE.out _ _ HX.out;exact ⟨_,_,q1,q2,rfl,k1⟩
 ·have hx:=HB.out k;have hy:=HB.out (k+1);have hz:=HB.out (k+2);have HX:Hid (((f k*65536+f (k+1)*256+f (k+2))%n,k+3)=eY f n k):=by show _=_;rw [eY,if_neg hs]
  have HC1:Hid _:=jO p f k w h;have HC2:Hid (∀u,CurN u p f (k+1)→Calls Tryz.prog 83 #[.pointer (some ⟨p,0,none⟩)] u fun e w'=>e=.returned (.int .i64 (f (k+1)))∧DrewN u p f (k+2) w'):=fun u hu=>jO p f (k+1) u hu;have HC3:Hid (∀u,CurN u p f (k+2)→Calls Tryz.prog 83 #[.pointer (some ⟨p,0,none⟩)] u fun e w'=>e=.returned (.int .i64 (f (k+2)))∧DrewN u p f (k+3) w'):=fun u hu=>jO p f (k+2) u hu;generalize f k=x at *;generalize f (k+1)=y at *;generalize f (k+2)=z at *;go_enter Tryz.func30,Tryz.ntmps30;go_wp2_with fail;refine Calls.mono HC1.out ?_;rintro e v1 ⟨rfl,k1⟩;go_wp2_with fail;refine (HC2.out v1 k1.1).mono ?_;rintro e v2 ⟨rfl,k2⟩;have k12:=k1.trans k2;clear k1 k2;go_wp2_with fail;refine (HC3.out v2 k12.1).mono ?_;rintro e v3 ⟨rfl,k3⟩;have k13:=k12.trans k3;clear k12 k3;go_wp2_with fail;go_ret;obtain ⟨q1,q2⟩:=HE.out _ _ HX.out;exact ⟨_,_,q1,q2,rfl,k13⟩
theorem dp (p:Nat) (f:Nat→Int) (k:Nat) (n:Int) (w:World) (h:CurN w p f k) (hn:1≤n) (hn':n≤16777216):
 Calls Tryz.prog 33 #[.pointer (some ⟨p,0,none⟩),.int .i64 n] w fun e w'=>∃x k',mS f n k=(x,k')∧e=.returned (.bool x)∧DrewN w p f k' w':=by
 go_enter Tryz.func33,Tryz.ntmps33;go_wp2_with fail;refine (aX p f k n w h hn hn').mono ?_;rintro e v1 ⟨x,k',e1,hx,rfl,k1⟩;have HE:Hid _:=e1;clear e1;go_wp2_with fail;go_ret;exact ⟨_,_,by rw [mS,HE.out],rfl,k1⟩
theorem oI (p:Nat) (f:Nat→Int) (k:Nat) (w:World) (h:CurN w p f k):
 Calls Tryz.prog 82 #[.pointer (some ⟨p,0,none⟩)] w fun e w'=>∃x k',u4 f k=(x,k')∧(0≤x∧x≤18446744073709551615)∧e=.returned (.int .u64 x)∧DrewN w p f k' w':=by
 have HB:Hid (∀j,0≤f j∧f j≤255):=fun j=>h.bd j;go_enter Tryz.func82,Tryz.ntmps82;go_wp2_with fail;go_loopw [3,4] (fun xx kk wr=>∃(x:Int) (j:Nat),(0≤x∧x≤18446744073709551615)∧j≤8∧xx=.int .u64 x∧kk=.int .i64 j∧tp f (8-j) (k+j) x=tp f 8 k 0∧DrewN w p f (k+j) wr) (fun _ kk _=>8-(intOf kk).toNat)
 case atStart=>exact ⟨0,0,by omega,by omega,rfl,rfl,rfl,h,aE _ _⟩
 case round=>
  obtain ⟨x,j,hx,hj,rfl,rfl,hw,hd⟩:=hrel;have HW:Hid _:=hw;clear hw;by_cases hlt:j<8
  ·have hy:=HB.out (k+j);have HC:Hid _:=jO p f (k+j) wr hd.1;have HY:Hid (tp f (8-(j+1)) (k+(j+1)) (IntKind.u64.wrap (IntKind.u64.wrap (x*256)+f (k+j)))=tp f 8 k 0):=by
    show _=_;rw [←HW.out,show 8-j=(8-(j+1))+1 by omega];rfl
   generalize f (k+j)=y at *;go_wp2_with fail;refine Calls.mono HC.out ?_;rintro e v1 ⟨rfl,k1⟩;have hd1:=hd.trans k1;clear hd k1;go_wp2_with fail;have hw:=aR (IntKind.u64.wrap (x*256)+y);go_roundw
   case rel=>exact ⟨_,j+1,hw,by omega,rfl,by go_num,HY.out,hd1⟩
   case measure=>simp [intOf];omega
  ·have hj8:j=8:=by omega
   subst hj8;go_wp2_with fail;go_ret;exact ⟨x,k+8,by rw [u4,←HW.out];rfl,hx,rfl,hd⟩
theorem yw (f:Nat→Int) (j k:Nat):(uc f (j+1) k).1=(uc f j k).1++[f (k+j)]:=by
 simp [uc,List.range_succ]
set_option maxHeartbeats 800000 in
theorem Al (p:Nat) (f:Nat→Int) (k:Nat) (n:Nat) (w:World) (h:CurN w p f k) (hn:n≤1048576):
 Calls Tryz.prog 122 #[.pointer (some ⟨p,0,none⟩),.int .i64 n] w fun e w'=>
  ∃(g cp:Nat),e=.returned (.slice (some ⟨g,0,none⟩) n cp)∧OwnB 5 w' w.heap.size g n cp (uc f n k).1∧DrewN w p f (k+n) w':=by
 have HB:Hid (∀j,0≤f j∧f j≤255):=fun j=>h.bd j;have hp:=h.lt;have o1:=OwnB.new 5 w [] 0 rfl (by decide);have n1:Below w.heap.size w (w.alloc (Obj.cells #[] 5)):=(Below.refl _ _).alloc (Nat.le_refl _) _;have d1:DrewN w p f k (w.alloc (Obj.cells #[] 5)):=DrewN.below ⟨h,aE _ _⟩ n1 hp;simp only [List.map_nil] at o1;clear n1;go_enter Tryz.func122,Tryz.ntmps122;go_wp2_with fail;go_loopw [5,6] (fun vv kk wr=>∃(g cp j:Nat),j≤n∧vv=.slice (some ⟨g,0,none⟩) j cp∧kk=.int .i64 j∧OwnB 5 wr w.heap.size g j cp (uc f j k).1∧DrewN w p f (k+j) wr) (fun _ kk _=>n-(intOf kk).toNat)
 case atStart=>exact ⟨_,_,0,Nat.zero_le _,rfl,rfl,o1,d1⟩
 case round=>
  obtain ⟨g,cp,j,hk,rfl,rfl,ho,hd⟩:=hrel;have fa:=ho.facts;clear o1 d1;by_cases hlt:j<n
  ·have hy:=HB.out (k+j);have HC:Hid _:=jO p f (k+j) wr hd.1;have HM:Hid ((uc f (j+1) k).1=(uc f j k).1++[f (k+j)]):=yw f j k;generalize (uc f j k).1=zs at *;generalize f (k+j)=y at *;go_wp2_with fail;refine Calls.mono HC.out ?_;rintro e v1 ⟨rfl,k1⟩;have hd1:=hd.trans k1;have o2:=ho.gb k1.2 (by omega);have n2:Below w.heap.size v1 (v1.alloc (Obj.cells #[Value.int .u8 y] 5)):=(Below.refl _ _).alloc hd1.2.size _;have o3:=o2.keep ((Below.refl v1.heap.size v1).alloc (Nat.le_refl _) (Obj.cells #[Value.int .u8 y] 5)) o2.facts.2.2.1;have y3:=tT v1 5 y hy;clear hd k1 ho o2;go_wp2_with (at_builtin;refine eJ _ rfl (.tmp 16) (.tmp 19) 22 rfl 5 Tryz.underlying22 Tryz.infoB w.heap.size _ _ _ _ rfl o3 v1.heap.size 0 1 1 [y] rfl y3 (by omega) _ _ n2 (Nat.le_refl _) ?_;intro g4 cp4 v4 o4 n4;clear o3 y3 n2);have hd4:=hd1.below n4 hp;go_roundw
   case rel=>exact ⟨g4,cp4,j+1,by omega,rfl,by go_num,by rw [HM.out];exact o4,hd4⟩
   case measure=>simp [intOf];omega
  ·have hkn:j=n:=by omega
   subst hkn;go_wp2_with fail;go_ret;exact ⟨g,cp,rfl,ho,hd⟩
end Go.Proofs.YtaoaifmkhbgaiaaGreat

namespace Go.Proofs.YtaoaifmkhbgaiaaGreat
set_option linter.unusedVariables false
def bK (x p:Int):Bool:=x/p%2 == 1
def bW (va:Int):Bool:=va/16384%1125899906842624 == 0 || va/16384%1125899906842624 == 1125899906842623
def dK (pte:Int):Int:=pte/1024%17592186044416
def iC (level:Int):Int:=if level=0 then 1 else if level=1 then 8 else 64
def hJ (level:Int):Int:=if level=0 then 64 else if level=1 then 512 else 4096
def bC (pte level:Int):Int:=
 if level<0∨2<level∨bK pte 1=false∨0<pte/18014398509481984%1024∨(bK pte 4=true∧bK pte 2=false) then 0
 else if bK pte 2=false∧bK pte 4=false∧bK pte 8=false then
  (if level=0∨bK pte 16=true∨bK pte 64=true∨bK pte 128=true then 0 else 1)
 else if 0<dK pte%iC level then 0 else 2
def cH (pte kind mode:Int) (sum mxr:Bool):Bool:=
 (if kind=0 then bK pte 8 else if kind=1 then bK pte 2 || (mxr && bK pte 8) else if kind=2 then bK pte 4 && bK pte 128 else false) &&
 (if mode=0 then bK pte 16 else if mode=1 then !bK pte 16 || (kind != 0 && sum) else false) && bK pte 64
def eV (pte level va:Int):Int:=
 if level<0∨2<level then 0 else dK pte*64/hJ level*hJ level+va%hJ level
end Go.Proofs.YtaoaifmkhbgaiaaGreat
