import Derived.Deep.Slices
import Derived.Lib.SmallJoins
import Derived.Test.YtfgogedgolgnaaaGreatZk05
namespace Go.Proofs.YtfgogedgolgnaaaGreat
open Go.RowKit
set_option linter.unusedVariables false
set_option maxHeartbeats 6400000
set_option maxRecDepth 20000
section
open Go.ChangeShapes Go.WideShapes Go.RowKit Go.Joins Go.Deep
theorem mj (b off i:Nat):Addr.add ⟨b,off,none⟩ i=⟨b,off+i,none⟩:=by
 unfold Addr.add;split
 ·next h=>subst h;rfl
 ·rfl
theorem jb {w:World} {a:Addr} {es:List EntM} {n:Nat} (hn:es.length=n) (h:∀i (hi:i<es.length) j,j<6->w.cell? (a.add (i*6+j))=(cJ es[i])[j]?):RowC w (some a) n 6 (al es):=by
 refine ⟨by rw [bQ,hn],?_⟩;by_cases h0:n=0
 ·exact .inl h0
 ·obtain ⟨b,off,spot⟩:=a;have hc:=h 0 (by omega) 0 (by omega);have hc':w.cell? (Addr.add ⟨b,off,spot⟩ 0)=some (.bool (es[0]'(by omega)).valid):=by simpa [cJ] using hc
  have hspot:spot=none:=by simpa [Addr.add] using World.cell?_spot hc'
  subst hspot;refine .inr ⟨b,off,rfl,?_,fun i v hi=>?_⟩
  ·have hc0:w.cell? ⟨b,off,none⟩=some (.bool (es[0]'(by omega)).valid):=by simpa [Addr.add] using hc'
   unfold World.cell? at hc0;split at hc0
   ·next he=>exact (Array.getElem?_eq_some_iff.1 he).1
   ·cases hc0
  ·have hlt:i<(al es).length:=(List.getElem?_eq_some_iff.1 hi).1;rw [bQ] at hlt;have hq:i/6<es.length:=by omega
   have:=h (i/6) hq (i%6) (by omega);rw [<-dU es (i/6) (i%6) hq (by omega),show i/6*6+i%6=i by omega,mj,hi] at this;exact this
section
variable {H:Type} {enc:TypeId × Value->H} {P:Program} {w:World} {base:Nat} {spare:Nat->Bool} {held:Bool}
theorem ir {t:TypeId} {f0 f1 f2 f3 f4 f5:Field} {fuel:Nat} {cs:List Value} {x:DataW H × List MemPlace} (ht:P.underlying t=some (.struct #[f0,f1,f2,f3,f4,f5])) (hone:oneCellFields P #[f0,f1,f2,f3,f4,f5]=true) (hC:P.cellsOf t=6) (h:DataW.trod enc P w base spare held fuel t cs=some x):
 ∃c0 c1 c2 c3 c4 c5 y0 y1 y2 y3 y4 y5 n,cs=[c0,c1,c2,c3,c4,c5]∧DataW.trod enc P w base spare held n f0.type [c0]=some y0∧DataW.trod enc P w base spare held n f1.type [c1]=some y1∧DataW.trod enc P w base spare held n f2.type [c2]=some y2∧
  DataW.trod enc P w base spare held n f3.type [c3]=some y3∧DataW.trod enc P w base spare held n f4.type [c4]=some y4∧DataW.trod enc P w base spare held n f5.type [c5]=some y5:=by
 obtain ⟨xs,n,_,rfl,hl,hlen,hf⟩:=DataW.trod_struct ht h;rw [hC] at hl;obtain ⟨o0,k0⟩:=hone_of hone 0 f0 rfl;obtain ⟨o1,k1⟩:=hone_of hone 1 f1 rfl;obtain ⟨o2,k2⟩:=hone_of hone 2 f2 rfl;obtain ⟨o3,k3⟩:=hone_of hone 3 f3 rfl;obtain ⟨o4,k4⟩:=hone_of hone 4 f4 rfl;obtain ⟨o5,k5⟩:=hone_of hone 5 f5 rfl
 match cs,hl with
 | [c0,c1,c2,c3,c4,c5],_=>
  match xs,hlen with
  | [y0,y1,y2,y3,y4,y5],_=>
   exact ⟨c0,c1,c2,c3,c4,c5,y0,y1,y2,y3,y4,y5,n,rfl,by simpa [o0,k0] using hf 0 f0 rfl,by simpa [o1,k1] using hf 1 f1 rfl,by simpa [o2,k2] using hf 2 f2 rfl,by simpa [o3,k3] using hf 3 f3 rfl,by simpa [o4,k4] using hf 4 f4 rfl,by simpa [o5,k5] using hf 5 f5 rfl⟩
end
theorem kQ {H:Type} {enc:TypeId × Value->H} {w:World} {base:Nat} {spare:Nat->Bool} {held:Bool} {fuel:Nat} {cs:List Value} {x:DataW H × List MemPlace}
 (h:DataW.trod enc Tryz.prog w base spare held fuel 146 cs=some x):∃e:EntM,cs=cJ e∧bf e:=by
 obtain ⟨c0,c1,c2,c3,c4,c5,y0,y1,y2,y3,y4,y5,n,rfl,h0,h1,h2,h3,h4,h5⟩:=ir Tryz.underlying146 (by kernel_rfl) (by kernel_rfl) h;obtain ⟨b,f0,_⟩:=DataW.trod_bool Tryz.underlying4 h0;obtain ⟨l,f1,_,w1⟩:=DataW.trod_int Tryz.underlying2 h1;obtain ⟨t,f2,_,w2⟩:=DataW.trod_int Tryz.underlying23 h2;obtain ⟨a,f3,_,w3⟩:=DataW.trod_int Tryz.underlying23 h3;obtain ⟨g,f4,_⟩:=DataW.trod_bool Tryz.underlying4 h4;obtain ⟨p,f5,_,w5⟩:=DataW.trod_int Tryz.underlying23 h5;simp at f0 f1 f2 f3 f4 f5;subst f0 f1 f2 f3 f4 f5;exact ⟨⟨b,l,t,a,g,p⟩,rfl,bounds_i64 w1,bounds_u64 w2,bounds_u64 w3,bounds_u64 w5⟩
theorem kw {H:Type} {enc:TypeId × Value->H} {w:World} {base:Nat} {spare:Nat->Bool} {held:Bool} {fuel:Nat} {v:Value} {x:DataW H × List MemPlace}
 (h:DataW.trod enc Tryz.prog w base spare held fuel 26 [v]=some x):
 ∃a cap es,v=.slice a es.length cap∧RowC w a es.length 6 (al es)∧(∀e∈es,bf e)∧es.length<=cap∧(cap:Int)<=9223372036854775807:=by
 rcases open_slice Tryz.underlying26 h with ⟨hcs,_⟩ | ⟨a,len,cap,m,n,D,Pl,hcs,_,hl,hm,hmm,_,hx⟩
 ·simp at hcs;subst hcs;exact ⟨none,0,[],rfl,RowC.nil _ _ _,by simp,by simp,by simp⟩
 ·simp at hcs;subst hcs;have hlm:len<=m:=by rw [hmm];split <;> omega
  rw [show Tryz.prog.cellsOf 146=6 from by kernel_rfl] at hx;have inh:Inhabited EntM:=⟨aZ⟩;obtain ⟨E,hE⟩:=choose_lt (α:=EntM) (n:=len) (p:=fun i e=>(∀j,j<6->w.cell? (a.add (i*6+j))=(cJ e)[j]?)∧bf e) (fun i hi=>by
   obtain ⟨cs',h1,h2⟩:=hx i (by omega);obtain ⟨e,rfl,he⟩:=kQ h2;obtain ⟨_,_,h3⟩:=World.cells?_some h1;exact ⟨e,fun j hj=>by rw [<-add_add];exact h3 j hj,he⟩)
  refine ⟨some a,cap,(List.range len).map E,by simp,jb rfl (fun i hi j hj=>?_),?_,by simpa using hl,by unfold maxLen at hm;omega⟩
  ·simp only [List.getElem_map,List.getElem_range];exact (hE i (by simpa using hi)).1 j hj
  ·intro e he;simp at he;obtain ⟨i,hi,rfl⟩:=he;exact (hE i hi).2
theorem ml:Tryz.prog.cellsOf 28=3:=by kernel_rfl
end
section
open Go.RowKit Go.Joins Go.ChangeShapes Go.WideShapes Go.ChangeAt
theorem mh:Tryz.prog.cellsOf 30=9:=by kernel_rfl
def er (w:World) (t:TlbM) (a:Option Addr) (cap:Nat):Prop:=
 RowC w a t.es.length 6 (al t.es)∧(∀e∈t.es,bf e)∧(-9223372036854775808<=t.sets∧t.sets<=9223372036854775807)∧(-9223372036854775808<=t.ways∧t.ways<=9223372036854775807)∧t.es.length<=cap∧(cap:Int)<=9223372036854775807
theorem ms {α:Type} {cs:List α} (h:cs.length=3):∃c0 c1 c2,cs=[c0,c1,c2]:=by
 match cs,h with
 | [c0,c1,c2],_=>exact ⟨c0,c1,c2,rfl⟩
theorem mi {α:Type} {cs:Array α} (h:cs.size=9):∃c0 c1 c2 c3 c4 c5 c6 c7 c8,cs=#[c0,c1,c2,c3,c4,c5,c6,c7,c8]:=by
 obtain ⟨l⟩:=cs
 match l,h with
 | [c0,c1,c2,c3,c4,c5,c6,c7,c8],_=>exact ⟨c0,c1,c2,c3,c4,c5,c6,c7,c8,rfl⟩
set_option maxRecDepth 100000 in
theorem fc {H:Type} {enc:TypeId × Value->H} {w:World} {base:Nat} {spare:Nat->Bool} {held:Bool} {fuel:Nat} {cs:List Value} {x:DataW H × List MemPlace}
 (h:DataW.trod enc Tryz.prog w base spare held fuel 28 cs=some x):∃t a cap,cs=[.int .i64 t.sets,.int .i64 t.ways,.slice a t.es.length cap]∧er w t a cap:=by
 obtain ⟨y0,y1,y2,n,_,hl,h0,h1,h2⟩:=Go.Deep.trod_struct3 Tryz.underlying28 h;rw [ml] at hl;obtain ⟨c0,c1,c2,rfl⟩:=ms hl;have h0':DataW.trod enc Tryz.prog w base spare held n 2 [c0]=some y0:=h0;have h1':DataW.trod enc Tryz.prog w base spare held n 2 [c1]=some y1:=h1;have h2':DataW.trod enc Tryz.prog w base spare held n 26 [c2]=some y2:=h2;obtain ⟨s,f0,_,w0⟩:=DataW.trod_int Tryz.underlying2 h0';obtain ⟨y,f1,_,w1⟩:=DataW.trod_int Tryz.underlying2 h1';simp at f0 f1;subst f0 f1;obtain ⟨a,cap,es,rfl,hr,ho,hl,hm⟩:=kw h2';exact ⟨⟨s,y,es⟩,a,cap,rfl,hr,ho,bounds_i64 w0,bounds_i64 w1,hl,hm⟩
set_option maxRecDepth 100000 in
theorem iW {H:Type} {enc:TypeId × Value->H} {w:World} {base b0:Nat} {spare:Nat->Bool} {held:Bool} {r:Reach} {v:Value} {d:DataW H} {p:List MemPlace}
 (hv:Value.okWide Tryz.prog w r b0 30 v) (h:DataW.Trod enc Tryz.prog w base spare held 30 v d p):
 ∃(k:KM) (a1:Option Addr) (c1:Nat) (a2:Option Addr) (c2:Nat) (a3:Option Addr) (c3:Nat),v=.agg #[.int .i64 k.i.sets,.int .i64 k.i.ways,.slice a1 k.i.es.length c1,.int .i64 k.d.sets,.int .i64 k.d.ways,.slice a2 k.d.es.length c2,.int .i64 k.p.sets,.int .i64 k.p.ways,.slice a3 k.p.es.length c3]∧
  er w k.i a1 c1∧er w k.d a2 c2∧er w k.p a3 c3:=by
 obtain ⟨cs,rfl,hsz⟩:=okWide_struct Tryz.underlying30 hv;obtain ⟨q0,q1,q2,q3,q4,q5,q6,q7,q8,rfl⟩:=mi (hsz.trans mh);obtain ⟨fuel,hf⟩:=h;obtain ⟨y0,y1,y2,n,_,hl,h0,h1,h2⟩:=Go.Deep.trod_struct3 Tryz.underlying30 hf;have h0':DataW.trod enc Tryz.prog w base spare held n 28 [q0,q1,q2]=some y0:=h0;have h1':DataW.trod enc Tryz.prog w base spare held n 28 [q3,q4,q5]=some y1:=h1;have h2':DataW.trod enc Tryz.prog w base spare held n 28 [q6,q7,q8]=some y2:=h2;obtain ⟨ti,a1,c1,e1,k1⟩:=fc h0';obtain ⟨td,a2,c2,e2,k2⟩:=fc h1';obtain ⟨tp,a3,c3,e3,k3⟩:=fc h2';simp only [List.cons.injEq,and_true] at e1 e2 e3;obtain ⟨rfl,rfl,rfl⟩:=e1;obtain ⟨rfl,rfl,rfl⟩:=e2;obtain ⟨rfl,rfl,rfl⟩:=e3;exact ⟨⟨ti,td,tp⟩,a1,c1,a2,c2,a3,c3,rfl,k1,k2,k3⟩
end
end Go.Proofs.YtfgogedgolgnaaaGreat
