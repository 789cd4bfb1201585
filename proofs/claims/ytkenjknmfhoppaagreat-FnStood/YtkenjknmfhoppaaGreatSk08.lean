import Derived.Test.YtkenjknmfhoppaaGreatSk07
namespace Go.Proofs.YtkenjknmfhoppaaGreat
open Go.RowKit
set_option linter.unusedVariables false
set_option maxHeartbeats 6400000
set_option maxRecDepth 20000
section
attribute [local go_sem ↓] Go.wp_at_zero Go.wp_at_succ
theorem da {v:World} {p:Nat} {T:TypeId} {a b c d e f g h i:Value} (hh:v.heap[p]?=some (.cells #[a,b,c,d,e,f,g,h,i] T (0,0))):
 v.cell? (AD p 0)=some a∧v.cell? (AD p 1)=some b∧v.cell? (AD p 2)=some c∧v.cell? (AD p 3)=some d∧v.cell? (AD p 4)=some e∧v.cell? (AD p 5)=some f∧v.cell? (AD p 6)=some g∧v.cell? (AD p 7)=some h∧v.cell? (AD p 8)=some i:=by
 simp [World.cell?,hh]
theorem FY {B:Nat} {a w:World} {g:Nat} (h:Below B a w) (hg:B<=g) (x y z u v t:Value):Below B a ((((((w.setCell (AD g 0) x).setCell (AD g 1) y).setCell (AD g 2) z).setCell (AD g 3) u).setCell (AD g 4) v).setCell (AD g 5) t):=
 (((gQ h hg x y z).setCell (p:=(AD g 3)) hg u).setCell (p:=(AD g 4)) hg v).setCell (p:=(AD g 5)) hg t
theorem Er {B:Nat} {a w:World} {g:Nat} (h:Below B a w) (hg:B<=g) (x y z u v t p q r:Value):Below B a (((((((((w.setCell (AD g 0) x).setCell (AD g 1) y).setCell (AD g 2) z).setCell (AD g 3) u).setCell (AD g 4) v).setCell (AD g 5) t).setCell (AD g 6) p).setCell (AD g 7) q).setCell (AD g 8) r):=
 (((FY h hg x y z u v t).setCell (p:=(AD g 6)) hg p).setCell (p:=(AD g 7)) hg q).setCell (p:=(AD g 8)) hg r
theorem gb9 (w:World) (g:Nat) (x y z u v t p q r:Value):w.grownBy (((((((((w.setCell (AD g 0) x).setCell (AD g 1) y).setCell (AD g 2) z).setCell (AD g 3) u).setCell (AD g 4) v).setCell (AD g 5) t).setCell (AD g 6) p).setCell (AD g 7) q).setCell (AD g 8) r) (some g):=
 aq (aq (aq (aq (aq (aq (aq (aq (aq (aw w (some g)) 0 x) 1 y) 2 z) 3 u) 4 v) 5 t) 6 p) 7 q) 8 r
theorem qB {v:World} {p:Nat} {T:TypeId} {cs:Array Value} (hh:v.heap[p]?=some (.cells cs T (0,0))) (i:Nat):v.frozen? (AD p i)=false:=by
 simp [World.frozen?,hh]
def KAt (w:World) (v:Value) (k:KM):Prop:=
 ∃a1 c1 a2 c2 a3 c3,v=.agg #[VI k.i.sets,VI k.i.ways,.slice a1 k.i.es.length c1,VI k.d.sets,VI k.d.ways,.slice a2 k.d.es.length c2,VI k.p.sets,VI k.p.ways,.slice a3 k.p.es.length c3]∧
  TlbAt w (.agg #[VI k.i.sets,VI k.i.ways,.slice a1 k.i.es.length c1]) k.i∧TlbAt w (.agg #[VI k.d.sets,VI k.d.ways,.slice a2 k.d.es.length c2]) k.d∧TlbAt w (.agg #[VI k.p.sets,VI k.p.ways,.slice a3 k.p.es.length c3]) k.p
theorem KAt.keep {w w':World} {v:Value} {k:KM} (h:KAt w v k) (hb:Bw w w'):KAt w' v k:=by
 obtain ⟨a1,c1,a2,c2,a3,c3,rfl,h1,h2,h3⟩:=h;exact ⟨a1,c1,a2,c2,a3,c3,rfl,h1.keep hb,h2.keep hb,h3.keep hb⟩
theorem ed (v:Value) (k:KM) (w:World) (h:KAt w v k):
 Calls Tryz.prog 88 #[v] w fun e w'=>e=.returned (.bool (bJ k))∧Bw w w':=by
 obtain ⟨a1,c1,a2,c2,a3,c3,rfl,t1,t2,t3⟩:=h;obtain ⟨q1,hq1⟩:∃q,aR k.i false=q:=⟨_,rfl⟩;obtain ⟨q2,hq2⟩:∃q,aR k.d false=q:=⟨_,rfl⟩;obtain ⟨q3,hq3⟩:∃q,aR k.p true=q:=⟨_,rfl⟩;unfold bJ;rw [hq1,hq2,hq3];have n1:=(Below.refl w.heap.size w).alloc nle (Obj.cells #[VI k.i.sets,VI k.i.ways,.slice a1 k.i.es.length c1,VI k.d.sets,VI k.d.ways,.slice a2 k.d.es.length c2,VI k.p.sets,VI k.p.ways,.slice a3 k.p.es.length c3] 41);have HV1:Hid (∀v,Bw w v->Calls Tryz.prog 123 #[.agg #[VI k.i.sets,VI k.i.ways,.slice a1 k.i.es.length c1],.bool false] v fun e w'=>e=.returned (.bool q1)∧Bw v w'):=fun v hv=>by
  have:=fM _ _ false v (t1.keep hv);rw [hq1] at this;exact this
 have HV2:Hid (∀v,Bw w v->Calls Tryz.prog 123 #[.agg #[VI k.d.sets,VI k.d.ways,.slice a2 k.d.es.length c2],.bool false] v fun e w'=>e=.returned (.bool q2)∧Bw v w'):=fun v hv=>by
  have:=fM _ _ false v (t2.keep hv);rw [hq2] at this;exact this
 have HV3:Hid (∀v,Bw w v->Calls Tryz.prog 123 #[.agg #[VI k.p.sets,VI k.p.ways,.slice a3 k.p.es.length c3],.bool true] v fun e w'=>e=.returned (.bool q3)∧Bw v w'):=fun v hv=>by
  have:=fM _ _ true v (t3.keep hv);rw [hq3] at this;exact this
 have H1:Hid (∀v,Below (w.heap.size+1) (w.alloc (Obj.cells #[VI k.i.sets,VI k.i.ways,.slice a1 k.i.es.length c1,VI k.d.sets,VI k.d.ways,.slice a2 k.d.es.length c2,VI k.p.sets,VI k.p.ways,.slice a3 k.p.es.length c3] 41)) v->v.heap[w.heap.size]?=some (.cells #[VI k.i.sets,VI k.i.ways,.slice a1 k.i.es.length c1,VI k.d.sets,VI k.d.ways,.slice a2 k.d.es.length c2,VI k.p.sets,VI k.p.ways,.slice a3 k.p.es.length c3] 41 (0,0))):=
  fun v hv=>(hv.block w.heap.size (by omega)).trans (er w _)
 clear t1 t2 t3 hq1 hq2 hq3;generalize k.i.sets=s1 at *;generalize k.i.ways=w1 at *;generalize k.i.es.length=m1 at *;generalize k.d.sets=s2 at *;generalize k.d.ways=w2 at *;generalize k.d.es.length=m2 at *;generalize k.p.sets=s3 at *;generalize k.p.ways=w3 at *;generalize k.p.es.length=m3 at *;cases q1
 ·go_enter Tryz.func88,Tryz.ntmps88;go_wp2_with fail;refine (HV1.out _ n1).mono ?_;rintro e v2 ⟨rfl,n2⟩;have n12:=bst n1 n2;go_wp2;go_ret;exact ⟨rfl,n12⟩
 ·go_enter Tryz.func88,Tryz.ntmps88;go_wp2_with fail;refine (HV1.out _ n1).mono ?_;rintro e v2 ⟨rfl,n2⟩;have n12:=bst n1 n2;have K2:=da (H1.out v2 (n2.mono (by simp)));obtain ⟨x0,x1,x2,x3,x4,x5,x6,x7,x8⟩:=K2;cases q2
  ·go_wp2_with fail;refine (HV2.out _ n12).mono ?_;rintro e v3 ⟨rfl,n3⟩;have n13:=bst n12 n3;go_wp2;go_ret;exact ⟨rfl,n13⟩
  ·go_wp2_with fail;refine (HV2.out _ n12).mono ?_;rintro e v3 ⟨rfl,n3⟩;have n13:=bst n12 n3;have n23:=bst n2 n3;clear x0 x1 x2 x3 x4 x5 x6 x7 x8;have K3:=da (H1.out v3 (n23.mono (by simp)));obtain ⟨x0,x1,x2,x3,x4,x5,x6,x7,x8⟩:=K3;go_wp2_with fail;refine (HV3.out _ n13).mono ?_;rintro e v4 ⟨rfl,n4⟩;have n14:=bst n13 n4;go_wp2;go_ret;exact ⟨by simp,n14⟩
theorem qW (level va satp pte:Int) (w:World) (hl0:0<=level) (hl2:level<=2) (hv0:0<=va) (hv1:va<=18446744073709551615) (hs0:0<=satp) (hs1:satp<=18446744073709551615) (hp0:0<=pte) (hp1:pte<=18446744073709551615):
 Calls Tryz.prog 157 #[VI level,VU va,VU satp,VU pte] w fun e w'=>e=.returned (nX (eU level va satp pte))∧Bw w w':=by
 unfold nX eU;simp only;have n1:=(Below.refl w.heap.size w).alloc nle (Obj.cells #[.bool false,VI 0,VU 0,VU 0,.bool false,VU 0] 127);go_enter Tryz.func157,Tryz.ntmps157;go_wp2_with (first
  | (go_at_call 58;refine (sR va level _ hv0 hv1 hl0 hl2).mono ?_;rintro e w' ⟨rfl,nq,rfl⟩)
  | (go_at_call 57;refine (qC satp _ hs0 hs1).mono ?_;rintro e w' ⟨rfl,nr,rfl⟩)
  | (go_at_call 61;refine (bW pte 5 32 _ hp0 hp1 (by omega) (by omega) rfl).mono ?_;rintro e w' ⟨rfl,ns,rfl⟩))
 exact bodyPost_ret (v:=.agg #[.bool true,VI level,VU (gx va level),VU (aK satp),.bool (bX pte 32),VU pte]) (by simp [results,Tryz.results157,go_sem]) rfl ⟨rfl,FY (below_drewN n1 _) nle _ _ _ _ _ _⟩
def KOwn (base:Nat) (w:World) (v:Value) (k:KM):Prop:=
 ∃g1 c1 g2 c2 g3 c3,v=.agg #[VI k.i.sets,VI k.i.ways,SL g1 k.i.es.length c1,VI k.d.sets,VI k.d.ways,SL g2 k.d.es.length c2,VI k.p.sets,VI k.p.ways,SL g3 k.p.es.length c3]∧
  w.ownsRow base 127 6 (SL g1 k.i.es.length c1) k.i.es.length (aO k.i.es)∧w.ownsRow base 127 6 (SL g2 k.d.es.length c2) k.d.es.length (aO k.d.es)∧w.ownsRow base 127 6 (SL g3 k.p.es.length c3) k.p.es.length (aO k.p.es)
theorem ip (v:Value) (k:KM) (w:World) (h:KAt w v k):
 Calls Tryz.prog 89 #[v] w fun e w'=>(∃x,e=.returned x∧KOwn w.heap.size w' x k)∧Bw w w':=by
 obtain ⟨a1,c1,a2,c2,a3,c3,rfl,t1,t2,t3⟩:=h;have HL1:=hid fun v (hv:Bw w v)=>iE _ _ v (t1.keep hv);have HL2:=hid fun v (hv:Bw w v)=>iE _ _ v (t2.keep hv);have HL3:=hid fun v (hv:Bw w v)=>iE _ _ v (t3.keep hv);clear t1 t2 t3;unfold TlbOwn at HL1 HL2 HL3;unfold KOwn;generalize k.i.es=e1 at *;generalize k.d.es=e2 at *;generalize k.p.es=e3 at *;generalize k.i.sets=s1 at *;generalize k.i.ways=w1 at *;generalize k.d.sets=s2 at *;generalize k.d.ways=w2 at *;generalize k.p.sets=s3 at *;generalize k.p.ways=w3 at *;obtain ⟨m1,hm1⟩:∃m,e1.length=m:=⟨_,rfl⟩;obtain ⟨m2,hm2⟩:∃m,e2.length=m:=⟨_,rfl⟩;obtain ⟨m3,hm3⟩:∃m,e3.length=m:=⟨_,rfl⟩;rw [hm1] at HL1 |-;rw [hm2] at HL2 |-;rw [hm3] at HL3 |-;clear hm1 hm2 hm3;generalize aO e1=q1 at *;generalize aO e2=q2 at *;generalize aO e3=q3 at *;obtain ⟨v1,Ev1,n1,H1,H2,l1⟩:=al2 w #[VI s1,VI w1,.slice a1 m1 c1,VI s2,VI w2,.slice a2 m2 c2,VI s3,VI w3,.slice a3 m3 c3] #[VI 0,VI 0,SN,VI 0,VI 0,SN,VI 0,VI 0,SN] 41 41;go_enter Tryz.func89,Tryz.ntmps89;go_wp2_with fail;rw [Ev1.out];clear Ev1;have HC:=hid fun v (hv:Bw v1 v)=>da (ag H1.out hv (by omega));obtain ⟨b0,b1,b2,b3,b4,b5,b6,b7,b8⟩:=HC.out v1 brf;have i1:w.heap.size+1≠w.heap.size:=by omega
 have i2:w.heap.size≠w.heap.size+1:=by omega
 go_region_held3 (fun w'=>w'.cell? (AD w.heap.size 0)=some (VI s1)∧w'.cell? (AD w.heap.size 1)=some (VI w1)∧w'.cell? (AD w.heap.size 2)=some (.slice a1 m1 c1)∧w'.cell? (AD w.heap.size 3)=some (VI s2)∧w'.cell? (AD w.heap.size 4)=some (VI w2)∧w'.cell? (AD w.heap.size 5)=some (.slice a2 m2 c2)∧w'.cell? (AD w.heap.size 6)=some (VI s3)∧w'.cell? (AD w.heap.size 7)=some (VI w3)∧w'.cell? (AD w.heap.size 8)=some (.slice a3 m3 c3)) (go_keep)
  (first
   | (go_at_call_of 90 (Value.agg #[VI s1,VI w1,Value.slice a1 m1 c1]);refine (HL1.out _ (bst n1 (Below.refl v1.heap.size v1).drew)).mono ?_;rintro e y1 ⟨⟨x1,rfl,g1,d1,rfl,o1⟩,n1'⟩;have my1:Bw v1 y1:=bst (Below.refl v1.heap.size v1).drew n1';have kk:=HC.out y1 my1;obtain ⟨z10,z11,z12,z13,z14,z15,z16,z17,z18⟩:=kk;have OO1:Hid _:=o1;clear o1)
   | (go_at_call_of 90 (Value.agg #[VI s2,VI w2,Value.slice a2 m2 c2]);refine (HL2.out _ (bst n1 my1)).mono ?_;rintro e y2 ⟨⟨x2,rfl,g2,d2,rfl,o2⟩,n2'⟩;have my2:Bw v1 y2:=bst my1 n2';have kk:=HC.out y2 my2;obtain ⟨z20,z21,z22,z23,z24,z25,z26,z27,z28⟩:=kk;have OO2:Hid _:=o2;clear o2;have OP1:Hid _:=aj OO1.out n2';clear OO1)
   | (go_at_call_of 90 (Value.agg #[VI s3,VI w3,Value.slice a3 m3 c3]);refine (HL3.out _ (bst n1 my2)).mono ?_;rintro e y3 ⟨⟨x3,rfl,g3,d3,rfl,o3⟩,n3'⟩;have my3:Bw v1 y3:=bst my2 n3';have kk:=HC.out y3 my3;obtain ⟨z30,z31,z32,z33,z34,z35,z36,z37,z38⟩:=kk;have OO3:Hid _:=o3;clear o3;have OP1':Hid _:=aj OP1.out n3';have OP2:Hid _:=aj OO2.out n3';clear OP1 OO2;have F3:=ah H2 my3;have ff:=qB F3.out;have f0:=ff 0;have f1:=ff 1;have f2:=ff 2;have f3:=ff 3;have f4:=ff 4;have f5:=ff 5;have f6:=ff 6;have f7:=ff 7;have f8:=ff 8;have kk:=da F3.out;obtain ⟨j0,j1,j2,j3,j4,j5,j6,j7,j8⟩:=kk;clear ff))
 go_wp2_with fail;have r1:=ltl l1 my1.size;have r2:=ltl l1 my2.size;exact bodyPost_ret (v:=.agg #[VI s1,VI w1,SL g1 m1 d1,VI s2,VI w2,SL g2 m2 d2,VI s3,VI w3,SL g3 m3 d3]) (by simp [results,Tryz.results89,go_sem,j0,j1,j2,j3,j4,j5,j6,j7,j8]) rfl
  ⟨⟨_,rfl,g1,d1,g2,d2,g3,d3,rfl,aJ (aG OP1'.out (gb9 y3 (w.heap.size+1) _ _ _ _ _ _ _ _ _) l1) (Nat.le_of_lt (Nat.lt_trans (Nat.lt_succ_self _) l1)),aJ (aG OP2.out (gb9 y3 (w.heap.size+1) _ _ _ _ _ _ _ _ _) r1) (by omega),aJ (aG OO3.out (gb9 y3 (w.heap.size+1) _ _ _ _ _ _ _ _ _) r2) (by omega)⟩,Er (bst n1 my3) (by omega) _ _ _ _ _ _ _ _ _⟩
theorem KOwn.at {base:Nat} {w:World} {v:Value} {k:KM} (h:KOwn base w v k) (h1:fP k.i) (h2:fP k.d) (h3:fP k.p):KAt w v k:=by
 obtain ⟨g1,c1,g2,c2,g3,c3,rfl,o1,o2,o3⟩:=h;exact ⟨some (AD g1 0),c1,some (AD g2 0),c2,some (AD g3 0),c3,rfl,TlbOwn.at ⟨g1,c1,rfl,o1⟩ h1,TlbOwn.at ⟨g2,c2,rfl,o2⟩ h2,TlbOwn.at ⟨g3,c3,rfl,o3⟩ h3⟩
end
end Go.Proofs.YtkenjknmfhoppaaGreat
