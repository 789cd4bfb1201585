import Derived.Test.YthdgiakgepmabaaGreatDk16
import Derived.Deep.Slices
import Derived.Lib.SmallJoins
namespace Go.Proofs.YthdgiakgepmabaaGreat
open Go.RowKit
set_option linter.unusedVariables false
set_option maxHeartbeats 6400000
set_option maxRecDepth 20000
theorem oD (v:Value) (t:TlbM) (w:World) (h:TlbAt w v t):
 Calls Tryz.prog 77 #[v] w fun e w'=>(∃s y l n c,e=.returned (.tuple #[.agg #[VI s,VI y,.slice l n c],.bool (aY t false)])∧(aY t false=true->∃g,s=t.sets∧y=t.ways∧l=some (AD g 0)∧n=t.es.length∧c=t.es.length∧w'.ownsRow w.heap.size 216 6 (SL g t.es.length t.es.length) t.es.length (aC t.es)))∧Bw w w':=by
 refine (pr.1 v t w h).mono ?_;rintro e w' ⟨hc,nb⟩;refine ⟨?_,nb⟩;cases hv:aY t false
 ·rw [hv] at hc;dsimp only [cond] at hc;exact ⟨_,_,_,_,_,hc,fun h=>by cases h⟩
 ·rw [hv] at hc;dsimp only [cond] at hc;obtain ⟨g,he,ho⟩:=hc;exact ⟨_,_,_,_,_,he,fun _=>⟨g,rfl,rfl,rfl,rfl,rfl,ho⟩⟩
theorem uI (v:Value) (t:TlbM) (w:World) (h:TlbAt w v t):
 Calls Tryz.prog 78 #[v] w fun e w'=>(∃s y l n c,e=.returned (.tuple #[.agg #[VI s,VI y,.slice l n c],.bool (aY t true)])∧(aY t true=true->∃g,s=t.sets∧y=t.ways∧l=some (AD g 0)∧n=t.es.length∧c=t.es.length∧w'.ownsRow w.heap.size 221 6 (SL g t.es.length t.es.length) t.es.length (aC t.es)))∧Bw w w':=by
 refine (pr.2 v t w h).mono ?_;rintro e w' ⟨hc,nb⟩;refine ⟨?_,nb⟩;cases hv:aY t true
 ·rw [hv] at hc;dsimp only [cond] at hc;exact ⟨_,_,_,_,_,hc,fun h=>by cases h⟩
 ·rw [hv] at hc;dsimp only [cond] at hc;obtain ⟨g,he,ho⟩:=hc;exact ⟨_,_,_,_,_,he,fun _=>⟨g,rfl,rfl,rfl,rfl,rfl,ho⟩⟩
def Cx (base:Nat) (w:World) (e:Ending) (k:KM):Prop:=∃gi gd gp,e=.returned (.tuple #[.agg (gX k gi gd gp),.bool true])∧RowsAt w base gi gd gp k
theorem rx (v:Value) (k:KM) (w:World) (h:KAt w v k):
 Calls Tryz.prog 51 #[v] w fun e w'=>cond (cz k) (Cx w.heap.size w' e k) (e=.returned (.tuple #[.agg #[VI 0,VI 0,SN,VI 0,VI 0,SN,VI 0,VI 0,SN],.bool false]))∧Bw w w':=by
 obtain ⟨a1,c1,a2,c2,a3,c3,rfl,T1,T2,T3⟩:=h;obtain ⟨q1,hq1⟩:∃q,aY k.i false=q:=⟨_,rfl⟩;obtain ⟨q2,hq2⟩:∃q,aY k.d false=q:=⟨_,rfl⟩;obtain ⟨q3,hq3⟩:∃q,aY k.p true=q:=⟨_,rfl⟩;have HQ1:=hid hq1;have HQ2:=hid hq2;have HQ3:=hid hq3;have hgood:cz k=(q1 && q2 && q3):=by unfold cz;rw [hq1,hq2,hq3]
 rw [hgood];clear hgood hq1 hq2 hq3;have HT1:=hid fun u (hu:Bw w u)=>T1.keep hu;have HT2:=hid fun u (hu:Bw w u)=>T2.keep hu;have HT3:=hid fun u (hu:Bw w u)=>T3.keep hu;clear T1 T2 T3;have n1:=((Below.refl w.heap.size w).alloc nle (Obj.cells #[VI k.i.sets,VI k.i.ways,.slice a1 k.i.es.length c1,VI k.d.sets,VI k.d.ways,.slice a2 k.d.es.length c2,VI k.p.sets,VI k.p.ways,.slice a3 k.p.es.length c3] 42)).alloc (by simp) (Obj.cells #[VI 0,VI 0,SN,VI 0,VI 0,SN,VI 0,VI 0,SN] 86);have H1:Hid (((w.alloc (Obj.cells #[VI k.i.sets,VI k.i.ways,.slice a1 k.i.es.length c1,VI k.d.sets,VI k.d.ways,.slice a2 k.d.es.length c2,VI k.p.sets,VI k.p.ways,.slice a3 k.p.es.length c3] 42)).alloc (Obj.cells #[VI 0,VI 0,SN,VI 0,VI 0,SN,VI 0,VI 0,SN] 86)).heap[w.heap.size]?=some (.cells #[VI k.i.sets,VI k.i.ways,.slice a1 k.i.es.length c1,VI k.d.sets,VI k.d.ways,.slice a2 k.d.es.length c2,VI k.p.sets,VI k.p.ways,.slice a3 k.p.es.length c3] 42 (0,0))):=by
  exact (jW w _ _ _ _).1
 have H2:Hid (((w.alloc (Obj.cells #[VI k.i.sets,VI k.i.ways,.slice a1 k.i.es.length c1,VI k.d.sets,VI k.d.ways,.slice a2 k.d.es.length c2,VI k.p.sets,VI k.p.ways,.slice a3 k.p.es.length c3] 42)).alloc (Obj.cells #[VI 0,VI 0,SN,VI 0,VI 0,SN,VI 0,VI 0,SN] 86)).heap[w.heap.size+1]?=some (.cells #[VI 0,VI 0,SN,VI 0,VI 0,SN,VI 0,VI 0,SN] 86 (0,0))):=by
  have:=fC (w.alloc (Obj.cells #[VI k.i.sets,VI k.i.ways,.slice a1 k.i.es.length c1,VI k.d.sets,VI k.d.ways,.slice a2 k.d.es.length c2,VI k.p.sets,VI k.p.ways,.slice a3 k.p.es.length c3] 42)) (Obj.cells #[VI 0,VI 0,SN,VI 0,VI 0,SN,VI 0,VI 0,SN] 86);simp only [World.size_alloc] at this;exact this
 have l1:((w.alloc (Obj.cells #[VI k.i.sets,VI k.i.ways,.slice a1 k.i.es.length c1,VI k.d.sets,VI k.d.ways,.slice a2 k.d.es.length c2,VI k.p.sets,VI k.p.ways,.slice a3 k.p.es.length c3] 42)).alloc (Obj.cells #[VI 0,VI 0,SN,VI 0,VI 0,SN,VI 0,VI 0,SN] 86)).heap.size=w.heap.size+2:=by simp
 go_enter Tryz.func51,Tryz.ntmps51;go_wp2_with fail;generalize ((w.alloc (Obj.cells #[VI k.i.sets,VI k.i.ways,.slice a1 k.i.es.length c1,VI k.d.sets,VI k.d.ways,.slice a2 k.d.es.length c2,VI k.p.sets,VI k.p.ways,.slice a3 k.p.es.length c3] 42)).alloc (Obj.cells #[VI 0,VI 0,SN,VI 0,VI 0,SN,VI 0,VI 0,SN] 86))=u0 at n1 H1 H2 l1 |-;have A1:=n1;have I1:=H1;have J1:=H2;clear n1 H1 H2;refine (oD _ k.i u0 (HT1.out u0 A1)).mono ?_;rw [HQ1.out];rintro e z1 ⟨⟨s1,y1,t1,x1,cc1,rfl,hv1⟩,nz1⟩;have HV1:Hid _:=hv1;have m1:=nz1.alloc nz1.size (Obj.cells #[VI s1,VI y1,.slice t1 x1 cc1] 81);have mz1:=(Below.refl z1.heap.size z1).alloc nle (Obj.cells #[VI s1,VI y1,.slice t1 x1 cc1] 81);have B11:Hid ((z1.alloc (Obj.cells #[VI s1,VI y1,.slice t1 x1 cc1] 81)).heap[z1.heap.size]?=some (.cells #[VI s1,VI y1,.slice t1 x1 cc1] 81 (0,0))):=fC z1 _;have A2:=bst A1 m1;have J2:=ah J1 m1;have I2:=ah I1 m1;have IZ1:=jz (ah I1 nz1).out;have lz1:=(hpl (ah I1 nz1).out);have ls1:=nz1.size;have lt1:z1.heap.size<(z1.alloc (Obj.cells #[VI s1,VI y1,.slice t1 x1 cc1] 81)).heap.size:=by simp
 obtain ⟨b0,b1,b2,b3,b4,b5,b6,b7,b8⟩:=IZ1;clear hv1 nz1;go_wp2_with fail;generalize z1.alloc (Obj.cells #[VI s1,VI y1,.slice t1 x1 cc1] 81)=u1 at m1 mz1 B11 A2 J2 I2 lt1 |-;clear b0 b1 b2 b3 b4 b5 b6 b7 b8;refine (oD _ k.d u1 (HT2.out u1 A2)).mono ?_;rw [HQ2.out];rintro e z2 ⟨⟨s2,y2,t2,x2,cc2,rfl,hv2⟩,nz2⟩;have HV2:Hid _:=hv2;have m2:=nz2.alloc nz2.size (Obj.cells #[VI s2,VI y2,.slice t2 x2 cc2] 81);have mz2:=(Below.refl z2.heap.size z2).alloc nle (Obj.cells #[VI s2,VI y2,.slice t2 x2 cc2] 81);have B22:Hid ((z2.alloc (Obj.cells #[VI s2,VI y2,.slice t2 x2 cc2] 81)).heap[z2.heap.size]?=some (.cells #[VI s2,VI y2,.slice t2 x2 cc2] 81 (0,0))):=fC z2 _;have A3:=bst A2 m2;have J3:=ah J2 m2;have I3:=ah I2 m2;have B21:=ah B11 m2;have IZ2:=jz (ah I2 nz2).out;have lz2:=(hpl (ah I2 nz2).out);have ls2:=nz2.size;have lt2:z2.heap.size<(z2.alloc (Obj.cells #[VI s2,VI y2,.slice t2 x2 cc2] 81)).heap.size:=by simp
 obtain ⟨b0,b1,b2,b3,b4,b5,b6,b7,b8⟩:=IZ2;clear hv2 nz2;go_wp2_with fail;generalize z2.alloc (Obj.cells #[VI s2,VI y2,.slice t2 x2 cc2] 81)=u2 at m2 mz2 B22 A3 J3 I3 lt2 B21 |-;clear b0 b1 b2 b3 b4 b5 b6 b7 b8;refine (uI _ k.p u2 (HT3.out u2 A3)).mono ?_;rw [HQ3.out];rintro e z3 ⟨⟨s3,y3,t3,x3,cc3,rfl,hv3⟩,nz3⟩;have HV3:Hid _:=hv3;have A4:=bst A3 nz3;have J4:=ah J3 nz3;have B31:=ah B21 nz3;have B32:=ah B22 nz3;have q31:=(hpl B31.out);have q32:=(hpl B32.out);have q33:=(hpl J4.out);clear hv3;obtain ⟨p0,p1,p2⟩:=(aF B31.out).1;obtain ⟨p3,p4,p5⟩:=(aF B32.out).1;obtain ⟨d0,d1,d2,d3,d4,d5,d6,d7,d8⟩:=jz J4.out;have ff:=um J4.out;have f0:=ff 0;have f1:=ff 1;have f2:=ff 2;have f3:=ff 3;have f4:=ff 4;have f5:=ff 5;have f6:=ff 6;have f7:=ff 7;have f8:=ff 8;clear ff;have r31:z1.heap.size≠z3.heap.size:=by omega
 have r32:z2.heap.size≠z3.heap.size:=by omega
 have r33:w.heap.size+1≠z3.heap.size:=by omega
 by_cases hall:q1=true∧q2=true∧q3=true
 ·obtain ⟨rfl,rfl,rfl⟩:=hall;obtain ⟨gi,rfl,rfl,rfl,rfl,rfl,oi⟩:=HV1.out (by trivial);obtain ⟨gd,rfl,rfl,rfl,rfl,rfl,od⟩:=HV2.out (by trivial);obtain ⟨gp,rfl,rfl,rfl,rfl,rfl,op⟩:=HV3.out (by trivial);have lgi:=(cQ oi).2;have lgd:=(cQ od).2;have lgp:=(cQ op).2;simp only at lgi lgd lgp;have oi':=aq (aq (aq oi mz1) m2) nz3;have od':=aq (aq od mz2) nz3;have s1':=m2.size;have s2':=nz3.size;have s3':=m1.size;go_wp2_with fail;refine bodyPost_ret (v:=.tuple #[.agg (gX k gi gd gp),.bool true]) (by simp [results,Tryz.results51,go_sem,gX,d0,d1,d2,d3,d4,d5,d6,d7,d8,q33]) rfl ⟨⟨gi,gd,gp,rfl,?_⟩,(Gj A4 (by omega) _ _ _ _ _ _ _ _ _).alloc (by simp;omega) _⟩;have g9:=gb9 z3 (w.heap.size+1);exact RowsAt.keep ⟨bS (aE oi' (g9 _ _ _ _ _ _ _ _ _) (by omega)) (by omega),bS (aE od' (g9 _ _ _ _ _ _ _ _ _) (by omega)) (by omega),bS (aE op (g9 _ _ _ _ _ _ _ _ _) (by omega)) (by omega),by omega,by omega,by omega⟩ ((brf).alloc nle _)
 ·have hall':(q1 && q2 && q3)=false:=by
   cases q1 <;> cases q2 <;> cases q3 <;> simp at hall |-
  cases q1 <;> cases q2 <;> cases q3;all_goals first | (exfalso;simp at hall';done) | skip
  all_goals
   go_wp2_with fail;exact bodyPost_ret (v:=.tuple #[.agg #[VI 0,VI 0,SN,VI 0,VI 0,SN,VI 0,VI 0,SN],.bool false]) (by simp [results,Tryz.results51,go_sem,d0,d1,d2,d3,d4,d5,d6,d7,d8,q33]) rfl ⟨rfl,(Gj A4 (by omega) _ _ _ _ _ _ _ _ _).alloc (by simp;omega) _⟩
def gz (s t:Value):Prop:=∀g,s.ownBlock=some g->t.ownBlock≠some g
def TransSep (base:Nat) (w:World) (v:Value) (r:(Int × Int) × KM):Prop:=
 ∃s1 s2 s3,v=.agg #[VI r.1.1,VU r.1.2,VI r.2.i.sets,VI r.2.i.ways,s1,VI r.2.d.sets,VI r.2.d.ways,s2,VI r.2.p.sets,VI r.2.p.ways,s3]∧
  w.ownsRow base 154 6 s1 r.2.i.es.length (co r.2.i.es)∧w.ownsRow base 154 6 s2 r.2.d.es.length (co r.2.d.es)∧w.ownsRow base 154 6 s3 r.2.p.es.length (co r.2.p.es)∧
  gz s1 s2∧gz s1 s3∧gz s2 s3
theorem TransSep.own {base:Nat} {w:World} {v:Value} {r:(Int × Int) × KM} (h:TransSep base w v r):CL base w v r:=by
 obtain ⟨s1,s2,s3,h0,h1,h2,h3,_⟩:=h;exact ⟨s1,s2,s3,h0,h1,h2,h3⟩
theorem TlbAt.row {w:World} {a:Option Addr} {c:Nat} {t:TlbM} (h:TlbAt w (.agg #[VI t.sets,VI t.ways,.slice a t.es.length c]) t):RowC w a t.es.length 6 (co t.es)∧t.es.length<=1048576:=by
 obtain ⟨a',c',he,hr,_,_,_,hl,_⟩:=h;simp at he;obtain ⟨rfl,rfl⟩:=he;exact ⟨hr,hl⟩
theorem pL {e:TypeId} {size base n:Nat} {w:World} {s:Value} {cs:List Value} (h:w.ownsRow base e size s n cs):(s=SN∧n=0∧cs=[])∨∃g cap,s=SL g n cap:=by
 rcases h.2 with ⟨h1,h2⟩ | ⟨g,cap,_,h1,_⟩
 ·refine .inl ⟨h1,h2,?_⟩;have:=h.1;subst h2;simpa using this
 ·exact .inr ⟨g,cap,h1⟩
def RowS (w:World) (s:Value) (n:Nat) (cs:List Value):Prop:=∃a cap,s=.slice a n cap∧RowC w a n 6 cs
theorem RowS.keep {w w':World} {s:Value} {n:Nat} {cs:List Value} (h:RowS w s n cs) (hb:Bw w w'):RowS w' s n cs:=by
 obtain ⟨a,c,h1,h2⟩:=h;exact ⟨a,c,h1,h2.keep hb⟩
structure Mid (R:Nat->Prop) (w w':World):Prop where
 os:w'.os=w.os
 tape:w'.tape=w.tape
 output:w'.output=w.output
 size:w.heap.size<=w'.heap.size
 block:∀i,i<w.heap.size->¬R i->w'.heap[i]?=w.heap[i]?
theorem Mid.of_gb {R:Nat->Prop} {w w':World} {r:Option Nat} (h:w.grownBy w' r) (hr:∀g,r=some g->R g):Mid R w w':=
 ⟨h.os,h.tape,h.output,h.size,fun i hi' hh=>h.block i hi' (fun e=>hh (hr i e.symm))⟩
theorem Mid.of_below {R:Nat->Prop} {w w':World} (h:Bw w w'):Mid R w w':=
 ⟨h.os,h.tape,h.output,h.size,fun i hi' _=>h.block i hi'⟩
theorem Mid.trans {R:Nat->Prop} {a b c:World} (h:Mid R a b) (k:Mid R b c):Mid R a c:=
 ⟨k.os.trans h.os,k.tape.trans h.tape,k.output.trans h.output,Nat.le_trans h.size k.size,fun i hi' hh=>(k.block i (ltl hi' h.size) hh).trans (h.block i hi' hh)⟩
theorem Mid.heap {R:Nat->Prop} {g:Nat} {w w':World} {o:Obj} (h:Mid R w w') (hg:w.heap[g]?=some o) (hh:¬R g):w'.heap[g]?=some o:=
 (h.block g (hpl hg) hh).trans hg
theorem Mid.below {R:Nat->Prop} {B:Nat} {a w w':World} (h:Mid R w w') (hb:Below B a w) (hB:B<=w.heap.size) (hl:∀g,R g->B<=g):Below B a w':=
 ⟨h.os.trans hb.os,h.tape.trans hb.tape,h.output.trans hb.output,Nat.le_trans hb.size h.size,fun k hk=>(h.block k (by omega) (fun hr=>by have:=hl k hr;omega)).trans (hb.block k hk)⟩
theorem Mid.own {R:Nat->Prop} {e:TypeId} {size base n:Nat} {w w':World} {s:Value} {cs:List Value} (h:Mid R w w') (ho:w.ownsRow base e size s n cs) (hh:∀g,s.ownBlock=some g->¬R g):w'.ownsRow base e size s n cs:=by
 refine ⟨ho.1,?_⟩;rcases ho.2 with h1 | ⟨g,cap,cur,h1,h2,h3,h4⟩
 ·exact .inl h1
 ·exact .inr ⟨g,cap,cur,h1,h2,h.heap h3 (hh g (by rw [h1];rfl)),h4⟩
def F8 (s1 s2 s3:Value) (i:Nat):Prop:=s1.ownBlock=some i∨s2.ownBlock=some i∨s3.ownBlock=some i
theorem lK {e:TypeId} {size base n:Nat} {w w':World} {s t:Value} {cs:List Value} (h:w.ownsRow base e size s n cs) (hg:w.grownBy w' t.ownBlock) (ha:gz s t):w'.ownsRow base e size s n cs:=by
 refine h.kept hg ?_;cases hs:s.ownBlock with
 | none=>exact .inl rfl
 | some g=>exact .inr fun he=>ha g hs he.symm
section
open Go.RowKit Go.Joins Go.ChangeShapes Go.WideShapes Go.ChangeAt
def tlbIn (w:World) (t:TlbM) (a:Option Addr) (cap:Nat):Prop:=
 RowC w a t.es.length 6 (co t.es)∧(∀e∈t.es,iH e)∧(-9223372036854775808<=t.sets∧t.sets<=9223372036854775807)∧(-9223372036854775808<=t.ways∧t.ways<=9223372036854775807)∧t.es.length<=cap∧(cap:Int)<=9223372036854775807
end
end Go.Proofs.YthdgiakgepmabaaGreat
