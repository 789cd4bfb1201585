import Derived.Test.YtjdmhibnhpdjaaaGreatPk04
namespace Go.Proofs.YtjdmhibnhpdjaaaGreat
open Go.RowKit
set_option linter.unusedVariables false
set_option maxHeartbeats 6400000
set_option maxRecDepth 20000
section
attribute [local go_sem ↓] Go.wp_at_zero Go.wp_at_succ
theorem jr {v:World} {p:Nat} {T:TypeId} {a b c d e f g h i:Value} (hh:v.heap[p]?=some (.cells #[a,b,c,d,e,f,g,h,i] T (0,0))):
 v.cell? (AD p 0)=some a∧v.cell? (AD p 1)=some b∧v.cell? (AD p 2)=some c∧v.cell? (AD p 3)=some d∧v.cell? (AD p 4)=some e∧v.cell? (AD p 5)=some f∧v.cell? (AD p 6)=some g∧v.cell? (AD p 7)=some h∧v.cell? (AD p 8)=some i:=by
 simp [World.cell?,hh]
theorem FH {B:Nat} {a w:World} {g:Nat} (h:Below B a w) (hg:B<=g) (x y z u v t:Value):Below B a ((((((w.setCell (AD g 0) x).setCell (AD g 1) y).setCell (AD g 2) z).setCell (AD g 3) u).setCell (AD g 4) v).setCell (AD g 5) t):=
 (((lA h hg x y z).setCell (p:=(AD g 3)) hg u).setCell (p:=(AD g 4)) hg v).setCell (p:=(AD g 5)) hg t
theorem Ek {B:Nat} {a w:World} {g:Nat} (h:Below B a w) (hg:B<=g) (x y z u v t p q r:Value):Below B a (((((((((w.setCell (AD g 0) x).setCell (AD g 1) y).setCell (AD g 2) z).setCell (AD g 3) u).setCell (AD g 4) v).setCell (AD g 5) t).setCell (AD g 6) p).setCell (AD g 7) q).setCell (AD g 8) r):=
 (((FH h hg x y z u v t).setCell (p:=(AD g 6)) hg p).setCell (p:=(AD g 7)) hg q).setCell (p:=(AD g 8)) hg r
theorem gb9 (w:World) (g:Nat) (x y z u v t p q r:Value):w.grownBy (((((((((w.setCell (AD g 0) x).setCell (AD g 1) y).setCell (AD g 2) z).setCell (AD g 3) u).setCell (AD g 4) v).setCell (AD g 5) t).setCell (AD g 6) p).setCell (AD g 7) q).setCell (AD g 8) r) (some g):=
 hZ (hZ (hZ (hZ (hZ (hZ (hZ (hZ (hZ (aM w (some g)) 0 x) 1 y) 2 z) 3 u) 4 v) 5 t) 6 p) 7 q) 8 r
theorem sD {v:World} {p:Nat} {T:TypeId} {cs:Array Value} (hh:v.heap[p]?=some (.cells cs T (0,0))) (i:Nat):v.frozen? (AD p i)=false:=by
 simp [World.frozen?,hh]
def KAt (w:World) (v:Value) (k:KM):Prop:=
 ∃a1 c1 a2 c2 a3 c3,v=.agg #[VI k.i.sets,VI k.i.ways,.slice a1 k.i.es.length c1,VI k.d.sets,VI k.d.ways,.slice a2 k.d.es.length c2,VI k.p.sets,VI k.p.ways,.slice a3 k.p.es.length c3]∧
  TlbAt w (.agg #[VI k.i.sets,VI k.i.ways,.slice a1 k.i.es.length c1]) k.i∧TlbAt w (.agg #[VI k.d.sets,VI k.d.ways,.slice a2 k.d.es.length c2]) k.d∧TlbAt w (.agg #[VI k.p.sets,VI k.p.ways,.slice a3 k.p.es.length c3]) k.p
theorem KAt.keep {w w':World} {v:Value} {k:KM} (h:KAt w v k) (hb:Bw w w'):KAt w' v k:=by
 obtain ⟨a1,c1,a2,c2,a3,c3,rfl,h1,h2,h3⟩:=h;exact ⟨a1,c1,a2,c2,a3,c3,rfl,h1.keep hb,h2.keep hb,h3.keep hb⟩
theorem kF (v:Value) (k:KM) (w:World) (h:KAt w v k):
 Calls Tryz.prog 127 #[v] w fun e w'=>e=.returned (.bool (iP k))∧Bw w w':=by
 obtain ⟨a1,c1,a2,c2,a3,c3,rfl,t1,t2,t3⟩:=h;obtain ⟨q1,hq1⟩:∃q,ah k.i false=q:=⟨_,rfl⟩;obtain ⟨q2,hq2⟩:∃q,ah k.d false=q:=⟨_,rfl⟩;obtain ⟨q3,hq3⟩:∃q,ah k.p true=q:=⟨_,rfl⟩;unfold iP;rw [hq1,hq2,hq3];have n1:=(Below.refl w.heap.size w).alloc nle (Obj.cells #[VI k.i.sets,VI k.i.ways,.slice a1 k.i.es.length c1,VI k.d.sets,VI k.d.ways,.slice a2 k.d.es.length c2,VI k.p.sets,VI k.p.ways,.slice a3 k.p.es.length c3] 35);have HV1:Hid (∀v,Bw w v->Calls Tryz.prog 147 #[.agg #[VI k.i.sets,VI k.i.ways,.slice a1 k.i.es.length c1],.bool false] v fun e w'=>e=.returned (.bool q1)∧Bw v w'):=fun v hv=>by
  have:=kU _ _ false v (t1.keep hv);rw [hq1] at this;exact this
 have HV2:Hid (∀v,Bw w v->Calls Tryz.prog 147 #[.agg #[VI k.d.sets,VI k.d.ways,.slice a2 k.d.es.length c2],.bool false] v fun e w'=>e=.returned (.bool q2)∧Bw v w'):=fun v hv=>by
  have:=kU _ _ false v (t2.keep hv);rw [hq2] at this;exact this
 have HV3:Hid (∀v,Bw w v->Calls Tryz.prog 147 #[.agg #[VI k.p.sets,VI k.p.ways,.slice a3 k.p.es.length c3],.bool true] v fun e w'=>e=.returned (.bool q3)∧Bw v w'):=fun v hv=>by
  have:=kU _ _ true v (t3.keep hv);rw [hq3] at this;exact this
 have H1:Hid (∀v,Below (w.heap.size+1) (w.alloc (Obj.cells #[VI k.i.sets,VI k.i.ways,.slice a1 k.i.es.length c1,VI k.d.sets,VI k.d.ways,.slice a2 k.d.es.length c2,VI k.p.sets,VI k.p.ways,.slice a3 k.p.es.length c3] 35)) v->v.heap[w.heap.size]?=some (.cells #[VI k.i.sets,VI k.i.ways,.slice a1 k.i.es.length c1,VI k.d.sets,VI k.d.ways,.slice a2 k.d.es.length c2,VI k.p.sets,VI k.p.ways,.slice a3 k.p.es.length c3] 35 (0,0))):=
  fun v hv=>(hv.block w.heap.size (by omega)).trans (F6 w _)
 clear t1 t2 t3 hq1 hq2 hq3;generalize k.i.sets=s1 at *;generalize k.i.ways=w1 at *;generalize k.i.es.length=m1 at *;generalize k.d.sets=s2 at *;generalize k.d.ways=w2 at *;generalize k.d.es.length=m2 at *;generalize k.p.sets=s3 at *;generalize k.p.ways=w3 at *;generalize k.p.es.length=m3 at *;cases q1
 ·go_enter Tryz.func127,Tryz.ntmps127;go_wp2_with fail;refine (HV1.out _ n1).mono ?_;rintro e v2 ⟨rfl,n2⟩;have n12:=bst n1 n2;go_wp2;go_ret;exact ⟨rfl,n12⟩
 ·go_enter Tryz.func127,Tryz.ntmps127;go_wp2_with fail;refine (HV1.out _ n1).mono ?_;rintro e v2 ⟨rfl,n2⟩;have n12:=bst n1 n2;have K2:=jr (H1.out v2 (n2.mono (by simp)));obtain ⟨x0,x1,x2,x3,x4,x5,x6,x7,x8⟩:=K2;cases q2
  ·go_wp2_with fail;refine (HV2.out _ n12).mono ?_;rintro e v3 ⟨rfl,n3⟩;have n13:=bst n12 n3;go_wp2;go_ret;exact ⟨rfl,n13⟩
  ·go_wp2_with fail;refine (HV2.out _ n12).mono ?_;rintro e v3 ⟨rfl,n3⟩;have n13:=bst n12 n3;have n23:=bst n2 n3;clear x0 x1 x2 x3 x4 x5 x6 x7 x8;have K3:=jr (H1.out v3 (n23.mono (by simp)));obtain ⟨x0,x1,x2,x3,x4,x5,x6,x7,x8⟩:=K3;go_wp2_with fail;refine (HV3.out _ n13).mono ?_;rintro e v4 ⟨rfl,n4⟩;have n14:=bst n13 n4;go_wp2;go_ret;exact ⟨by simp,n14⟩
theorem sY (level va satp pte:Int) (w:World) (hl0:0<=level) (hl2:level<=2) (hv0:0<=va) (hv1:va<=18446744073709551615) (hs0:0<=satp) (hs1:satp<=18446744073709551615) (hp0:0<=pte) (hp1:pte<=18446744073709551615):
 Calls Tryz.prog 137 #[VI level,VU va,VU satp,VU pte] w fun e w'=>e=.returned (qI (cN level va satp pte))∧Bw w w':=by
 unfold qI cN;simp only;have n1:=(Below.refl w.heap.size w).alloc nle (Obj.cells #[.bool false,VI 0,VU 0,VU 0,.bool false,VU 0] 153);go_enter Tryz.func137,Tryz.ntmps137;go_wp2_with (first
  | (go_at_call 154;refine (uv va level _ hv0 hv1 hl0 hl2).mono ?_;rintro e w' ⟨rfl,nq,rfl⟩)
  | (go_at_call 131;refine (sE satp _ hs0 hs1).mono ?_;rintro e w' ⟨rfl,nr,rfl⟩)
  | (go_at_call 108;refine (iU pte 5 32 _ hp0 hp1 (by omega) (by omega) rfl).mono ?_;rintro e w' ⟨rfl,ns,rfl⟩))
 exact bodyPost_ret (v:=.agg #[.bool true,VI level,VU (cW va level),VU (aA satp),.bool (aS pte 32),VU pte]) (by simp [results,Tryz.results137,go_sem]) rfl ⟨rfl,FH (below_drewN n1 _) nle _ _ _ _ _ _⟩
def KOwn (base:Nat) (w:World) (v:Value) (k:KM):Prop:=
 ∃g1 c1 g2 c2 g3 c3,v=.agg #[VI k.i.sets,VI k.i.ways,SL g1 k.i.es.length c1,VI k.d.sets,VI k.d.ways,SL g2 k.d.es.length c2,VI k.p.sets,VI k.p.ways,SL g3 k.p.es.length c3]∧
  w.ownsRow base 153 6 (SL g1 k.i.es.length c1) k.i.es.length (ao k.i.es)∧w.ownsRow base 153 6 (SL g2 k.d.es.length c2) k.d.es.length (ao k.d.es)∧w.ownsRow base 153 6 (SL g3 k.p.es.length c3) k.p.es.length (ao k.p.es)
theorem lY (v:Value) (k:KM) (w:World) (h:KAt w v k):
 Calls Tryz.prog 75 #[v] w fun e w'=>(∃x,e=.returned x∧KOwn w.heap.size w' x k)∧Bw w w':=by
 obtain ⟨a1,c1,a2,c2,a3,c3,rfl,t1,t2,t3⟩:=h;have HL1:=hid fun v (hv:Bw w v)=>mf _ _ v (t1.keep hv);have HL2:=hid fun v (hv:Bw w v)=>mf _ _ v (t2.keep hv);have HL3:=hid fun v (hv:Bw w v)=>mf _ _ v (t3.keep hv);clear t1 t2 t3;unfold TlbOwn at HL1 HL2 HL3;unfold KOwn;generalize k.i.es=e1 at *;generalize k.d.es=e2 at *;generalize k.p.es=e3 at *;generalize k.i.sets=s1 at *;generalize k.i.ways=w1 at *;generalize k.d.sets=s2 at *;generalize k.d.ways=w2 at *;generalize k.p.sets=s3 at *;generalize k.p.ways=w3 at *;obtain ⟨m1,hm1⟩:∃m,e1.length=m:=⟨_,rfl⟩;obtain ⟨m2,hm2⟩:∃m,e2.length=m:=⟨_,rfl⟩;obtain ⟨m3,hm3⟩:∃m,e3.length=m:=⟨_,rfl⟩;rw [hm1] at HL1 |-;rw [hm2] at HL2 |-;rw [hm3] at HL3 |-;clear hm1 hm2 hm3;generalize ao e1=q1 at *;generalize ao e2=q2 at *;generalize ao e3=q3 at *;obtain ⟨v1,Ev1,n1,H1,H2,l1⟩:=al2 w #[VI s1,VI w1,.slice a1 m1 c1,VI s2,VI w2,.slice a2 m2 c2,VI s3,VI w3,.slice a3 m3 c3] #[VI 0,VI 0,SN,VI 0,VI 0,SN,VI 0,VI 0,SN] 35 35;go_enter Tryz.func75,Tryz.ntmps75;go_wp2_with fail;rw [Ev1.out];clear Ev1;have HC:=hid fun v (hv:Bw v1 v)=>jr (ae H1.out hv (by omega));obtain ⟨b0,b1,b2,b3,b4,b5,b6,b7,b8⟩:=HC.out v1 brf;have i1:w.heap.size+1≠w.heap.size:=by omega
 have i2:w.heap.size≠w.heap.size+1:=by omega
 go_region_held3 (fun w'=>w'.cell? (AD w.heap.size 0)=some (VI s1)∧w'.cell? (AD w.heap.size 1)=some (VI w1)∧w'.cell? (AD w.heap.size 2)=some (.slice a1 m1 c1)∧w'.cell? (AD w.heap.size 3)=some (VI s2)∧w'.cell? (AD w.heap.size 4)=some (VI w2)∧w'.cell? (AD w.heap.size 5)=some (.slice a2 m2 c2)∧w'.cell? (AD w.heap.size 6)=some (VI s3)∧w'.cell? (AD w.heap.size 7)=some (VI w3)∧w'.cell? (AD w.heap.size 8)=some (.slice a3 m3 c3)) (go_keep)
  (first
   | (go_at_call_of 76 (Value.agg #[VI s1,VI w1,Value.slice a1 m1 c1]);refine (HL1.out _ (bst n1 (Below.refl v1.heap.size v1).drew)).mono ?_;rintro e y1 ⟨⟨x1,rfl,g1,d1,rfl,o1⟩,n1'⟩;have my1:Bw v1 y1:=bst (Below.refl v1.heap.size v1).drew n1';have kk:=HC.out y1 my1;obtain ⟨z10,z11,z12,z13,z14,z15,z16,z17,z18⟩:=kk;have OO1:Hid _:=o1;clear o1)
   | (go_at_call_of 76 (Value.agg #[VI s2,VI w2,Value.slice a2 m2 c2]);refine (HL2.out _ (bst n1 my1)).mono ?_;rintro e y2 ⟨⟨x2,rfl,g2,d2,rfl,o2⟩,n2'⟩;have my2:Bw v1 y2:=bst my1 n2';have kk:=HC.out y2 my2;obtain ⟨z20,z21,z22,z23,z24,z25,z26,z27,z28⟩:=kk;have OO2:Hid _:=o2;clear o2;have OP1:Hid _:=ab OO1.out n2';clear OO1)
   | (go_at_call_of 76 (Value.agg #[VI s3,VI w3,Value.slice a3 m3 c3]);refine (HL3.out _ (bst n1 my2)).mono ?_;rintro e y3 ⟨⟨x3,rfl,g3,d3,rfl,o3⟩,n3'⟩;have my3:Bw v1 y3:=bst my2 n3';have kk:=HC.out y3 my3;obtain ⟨z30,z31,z32,z33,z34,z35,z36,z37,z38⟩:=kk;have OO3:Hid _:=o3;clear o3;have OP1':Hid _:=ab OP1.out n3';have OP2:Hid _:=ab OO2.out n3';clear OP1 OO2;have F3:=gZ H2 my3;have ff:=sD F3.out;have f0:=ff 0;have f1:=ff 1;have f2:=ff 2;have f3:=ff 3;have f4:=ff 4;have f5:=ff 5;have f6:=ff 6;have f7:=ff 7;have f8:=ff 8;have kk:=jr F3.out;obtain ⟨j0,j1,j2,j3,j4,j5,j6,j7,j8⟩:=kk;clear ff))
 go_wp2_with fail;have r1:=ltl l1 my1.size;have r2:=ltl l1 my2.size;exact bodyPost_ret (v:=.agg #[VI s1,VI w1,SL g1 m1 d1,VI s2,VI w2,SL g2 m2 d2,VI s3,VI w3,SL g3 m3 d3]) (by simp [results,Tryz.results75,go_sem,j0,j1,j2,j3,j4,j5,j6,j7,j8]) rfl
  ⟨⟨_,rfl,g1,d1,g2,d2,g3,d3,rfl,ir (aD OP1'.out (gb9 y3 (w.heap.size+1) _ _ _ _ _ _ _ _ _) l1) (Nat.le_of_lt (Nat.lt_trans (Nat.lt_succ_self _) l1)),ir (aD OP2.out (gb9 y3 (w.heap.size+1) _ _ _ _ _ _ _ _ _) r1) (by omega),ir (aD OO3.out (gb9 y3 (w.heap.size+1) _ _ _ _ _ _ _ _ _) r2) (by omega)⟩,Ek (bst n1 my3) (by omega) _ _ _ _ _ _ _ _ _⟩
theorem KOwn.at {base:Nat} {w:World} {v:Value} {k:KM} (h:KOwn base w v k) (h1:aE k.i) (h2:aE k.d) (h3:aE k.p):KAt w v k:=by
 obtain ⟨g1,c1,g2,c2,g3,c3,rfl,o1,o2,o3⟩:=h;exact ⟨some (AD g1 0),c1,some (AD g2 0),c2,some (AD g3 0),c3,rfl,TlbOwn.at ⟨g1,c1,rfl,o1⟩ h1,TlbOwn.at ⟨g2,c2,rfl,o2⟩ h2,TlbOwn.at ⟨g3,c3,rfl,o3⟩ h3⟩
end
theorem bE (zs:List Int) (va:Int):∀(l:Nat) (n:Int),(ag zs va l n).1=1∨(ag zs va l n).1=2∨(ag zs va l n).1=3
 | 0,n=>by
  unfold ag;split
  ·simp
  ·split
   ·simp
   ·split <;> simp
 | l+1,n=>by
  unfold ag;split
  ·simp
  ·split
   ·simp
   ·split
    ·simp
    ·exact bE zs va l _
theorem ee (zs:List Int) (root va:Int):(aB zs root va).1=1∨(aB zs root va).1=2∨(aB zs root va).1=3:=by
 unfold aB;split
 ·simp
 ·exact bE zs va 2 _
theorem ez (va level:Int) (h0:0<=level) (h2:level<=2):0<=cW va level∧cW va level<pL level:=by
 unfold cW pL;rcases (show level=0∨level=1∨level=2 by omega) with rfl | rfl | rfl <;> simp <;> omega
theorem td {pte level:Int} (h:aq pte level≠0):0<=level∧level<=2:=by
 unfold aq at h;split at h
 ·exact absurd rfl h
 ·omega
theorem dg (level va satp pte:Int) (p:Bool) (hk:aq pte level=eu p):iB (cN level va satp pte) p=true:=by
 have hl:=td (by rw [hk];cases p <;> decide);have ht:=ez va level hl.1 hl.2;have ha:aA satp<=65535:=by unfold aA;omega
 simp [iB,cN,hl.1,hl.2,ht.2,ha,hk]
theorem dN (level va satp pte:Int) (p:Bool) (hk:aq pte level=eu p):0<=(cN level va satp pte).tag:=by
 have hl:=td (by rw [hk];cases p <;> decide);exact (ez va level hl.1 hl.2).1
theorem cL (va satp pick:Int):∀(rs:List aT) (p:TlbM),ah p true=true->ah (ji va satp pick rs p) true=true
 | [],p,h=>h
 | r::rs,p,h=>by
  rw [ji];refine cL va satp pick rs _ ?_;split
  ·rename_i hk;exact bf p _ pick true h (dg _ _ _ _ true hk) (dN _ _ _ _ true hk)
  ·exact h
theorem rl (zs:List Int) (va:Int):∀(l:Nat) (n:Int),(ag zs va l n).1=1->aq (ag zs va l n).2.2.1 (ag zs va l n).2.1=2
 | 0,n=>by
  intro h;unfold ag at h |-;split at h
  ·simp at h
  ·rename_i h1;rw [if_neg h1];split at h
   ·simp at h
   ·rename_i h2;rw [if_neg h2];split at h
    ·rename_i h3;rw [if_pos h3];exact h3
    ·simp at h
 | l+1,n=>by
  intro h;unfold ag at h |-;split at h
  ·simp at h
  ·rename_i h1;rw [if_neg h1];split at h
   ·simp at h
   ·rename_i h2;rw [if_neg h2];split at h
    ·rename_i h3;rw [if_pos h3];exact h3
    ·rename_i h3;rw [if_neg h3];exact rl zs va l _ h
theorem Ag (zs:List Int) (root va:Int) (h:(aB zs root va).1=1):aq (aB zs root va).2.2.1 (aB zs root va).2.1=2:=by
 unfold aB at h |-;split at h
 ·simp at h
 ·rename_i hc;rw [if_neg hc];exact rl zs va 2 _ h
theorem fA (kind:Int):bW kind≠0:=by
 unfold bW;split
 ·decide
 ·split <;> decide
theorem cM (kind:Int):aV kind≠0:=by
 unfold aV;split
 ·decide
 ·split <;> decide
theorem Ah (zs:List Int) (mode:Int) (sum mxr:Bool) (satp:Int) (k:KM) (kind va pick:Int) (hk:iP k=true) (h1:0<=kind∧kind<=2) (h2:0<=mode∧mode<=2) (h3:0<=pick∧pick<=255):
 iP (ay zs mode sum mxr satp k kind va pick).2=true:=by
 have hk':=hk;simp only [iP,Bool.and_eq_true] at hk';obtain ⟨⟨gi,gd⟩,gp⟩:=hk';unfold ay;rw [if_neg (by rw [hk];simp;omega)];split
 ·exact hk
 ·split
  ·exact hk
  ·split
   ·exact hk
   ·simp only;have gp':=cL va satp pick (iG zs satp va (aj k.p va (aA satp))).2.2.2 k.p gp;split
    ·rename_i ha;have hkind:aq (iG zs satp va (aj k.p va (aA satp))).2.2.1 (iG zs satp va (aj k.p va (aA satp))).2.1=2:=by
      have hcode:(iG zs satp va (aj k.p va (aA satp))).1=1:=by
       have hc:(iG zs satp va (aj k.p va (aA satp))).1=1∨(iG zs satp va (aj k.p va (aA satp))).1=2∨(iG zs satp va (aj k.p va (aA satp))).1=3:=by
        unfold iG;split
        ·exact bE zs va _ _
        ·exact ee zs satp va
       unfold jx at ha;rcases hc with hc | hc | hc
       ·exact hc
       ·rw [if_pos hc] at ha;exact absurd ha (fA kind)
       ·rw [if_neg (by rw [hc];decide),if_pos hc] at ha;exact absurd ha (cM kind)
      unfold iG at hcode |-;split at hcode
      ·rename_i hu;rw [if_pos hu];exact rl zs va _ _ hcode
      ·rename_i hu;rw [if_neg hu];exact Ag zs satp va hcode
     have hge:=dg _ va satp _ false hkind;have hgt:=dN _ va satp _ false hkind;unfold gE bS;split
     ·simp only [iP,Bool.and_eq_true];exact ⟨⟨bf _ _ pick false gi hge hgt,gd⟩,gp'⟩
     ·simp only [iP,Bool.and_eq_true];exact ⟨⟨gi,bf _ _ pick false gd hge hgt⟩,gp'⟩
    ·simp only [iP,Bool.and_eq_true];exact ⟨⟨gi,gd⟩,gp'⟩
section
attribute [local go_sem ↓] Go.wp_at_zero Go.wp_at_succ
def TransOwn (base:Nat) (w:World) (v:Value) (r:(Int × Int) × KM):Prop:=
 ∃s1 s2 s3,v=.agg #[VI r.1.1,VU r.1.2,VI r.2.i.sets,VI r.2.i.ways,s1,VI r.2.d.sets,VI r.2.d.ways,s2,VI r.2.p.sets,VI r.2.p.ways,s3]∧
  w.ownsRow base 153 6 s1 r.2.i.es.length (ao r.2.i.es)∧w.ownsRow base 153 6 s2 r.2.d.es.length (ao r.2.d.es)∧w.ownsRow base 153 6 s3 r.2.p.es.length (ao r.2.p.es)
theorem jo {v:World} {p:Nat} {T:TypeId} {a b c d e f g h i j k:Value} (hh:v.heap[p]?=some (.cells #[a,b,c,d,e,f,g,h,i,j,k] T (0,0))):
 v.cell? (AD p 0)=some a∧v.cell? (AD p 1)=some b∧v.cell? (AD p 2)=some c∧v.cell? (AD p 3)=some d∧v.cell? (AD p 4)=some e∧v.cell? (AD p 5)=some f∧v.cell? (AD p 6)=some g∧v.cell? (AD p 7)=some h∧v.cell? (AD p 8)=some i∧v.cell? (AD p 9)=some j∧v.cell? (AD p 10)=some k:=by
 simp [World.cell?,hh]
theorem jT {v:World} {p:Nat} {T:TypeId} {xs:Array Value} (hh:v.heap[p]?=some (.cells xs T (0,0))) (i:Nat):v.frozen? (AD p i)=false:=by
 simp [World.frozen?,hh]
theorem tQ {B:Nat} {a w:World} {g:Nat} (h:Below B a w) (hg:B<=g) (x0 x1 x2 x3 x4 x5 x6 x7 x8 x9 x10:Value):Below B a (((((((((((w.setCell (AD g 0) x0).setCell (AD g 1) x1).setCell (AD g 2) x2).setCell (AD g 3) x3).setCell (AD g 4) x4).setCell (AD g 5) x5).setCell (AD g 6) x6).setCell (AD g 7) x7).setCell (AD g 8) x8).setCell (AD g 9) x9).setCell (AD g 10) x10):=
 (((((((((((h.setCell (p:=(AD g 0)) hg x0).setCell (p:=(AD g 1)) hg x1).setCell (p:=(AD g 2)) hg x2).setCell (p:=(AD g 3)) hg x3).setCell (p:=(AD g 4)) hg x4).setCell (p:=(AD g 5)) hg x5).setCell (p:=(AD g 6)) hg x6).setCell (p:=(AD g 7)) hg x7).setCell (p:=(AD g 8)) hg x8).setCell (p:=(AD g 9)) hg x9).setCell (p:=(AD g 10)) hg x10)
theorem tR (w:World) (g:Nat) (x0 x1 x2 x3 x4 x5 x6 x7 x8 x9 x10:Value):w.grownBy (((((((((((w.setCell (AD g 0) x0).setCell (AD g 1) x1).setCell (AD g 2) x2).setCell (AD g 3) x3).setCell (AD g 4) x4).setCell (AD g 5) x5).setCell (AD g 6) x6).setCell (AD g 7) x7).setCell (AD g 8) x8).setCell (AD g 9) x9).setCell (AD g 10) x10) (some g):=
 (hZ (hZ (hZ (hZ (hZ (hZ (hZ (hZ (hZ (hZ (hZ (aM w (some g)) 0 x0) 1 x1) 2 x2) 3 x3) 4 x4) 5 x5) 6 x6) 7 x7) 8 x8) 9 x9) 10 x10)
theorem tS (base:Nat) (w:World):w.ownsRow base 153 6 (SN) 0 []:=⟨rfl,.inl ⟨rfl,rfl⟩⟩
theorem vf (a:Option Addr) (len cap:Nat) (mode:Int) (sum mxr:Bool) (satp:Int) (v:Value) (k:KM) (kind va pick:Int) (w:World) (h:KAt w v k)
 (hbad:iP k=false∨kind<0∨2<kind∨mode<0∨2<mode∨pick<0∨255<pick):
 Calls Tryz.prog 102 #[.slice a len cap,kg mode sum mxr satp,v,VI kind,VU va,VI pick] w fun e w'=>(∃x,e=.returned x∧TransOwn w.heap.size w' x ((63,0),k0M))∧Bw w w':=by
 have HK:=hid fun u (hu:Bw w u)=>kF v k u (h.keep hu);obtain ⟨a1,c1,a2,c2,a3,c3,rfl,_⟩:=h;obtain ⟨q,hq⟩:∃q,iP k=q:=⟨_,rfl⟩;rw [hq] at hbad HK;clear hq;have n1:Bw w (((w.alloc (Obj.cells #[VI mode,.bool sum,.bool mxr,VU satp] 205)).alloc (Obj.cells #[VI k.i.sets,VI k.i.ways,.slice a1 k.i.es.length c1,VI k.d.sets,VI k.d.ways,.slice a2 k.d.es.length c2,VI k.p.sets,VI k.p.ways,.slice a3 k.p.es.length c3] 35)).alloc (Obj.cells #[VI 0,VU 0,VI 0,VI 0,SN,VI 0,VI 0,SN,VI 0,VI 0,SN] 208)):=(((Below.refl w.heap.size w).alloc nle _).alloc (by simp) _).alloc (by simp;omega) _;have H1:Hid ((((w.alloc (Obj.cells #[VI mode,.bool sum,.bool mxr,VU satp] 205)).alloc (Obj.cells #[VI k.i.sets,VI k.i.ways,.slice a1 k.i.es.length c1,VI k.d.sets,VI k.d.ways,.slice a2 k.d.es.length c2,VI k.p.sets,VI k.p.ways,.slice a3 k.p.es.length c3] 35)).alloc (Obj.cells #[VI 0,VU 0,VI 0,VI 0,SN,VI 0,VI 0,SN,VI 0,VI 0,SN] 208)).heap[w.heap.size]?=some (.cells #[VI mode,.bool sum,.bool mxr,VU satp] 205 (0,0))):=by
  show _=_;rw [F7 _ _ (by simp;omega),F7 _ _ (by simp)];exact F6 w _
 have H2:Hid ((((w.alloc (Obj.cells #[VI mode,.bool sum,.bool mxr,VU satp] 205)).alloc (Obj.cells #[VI k.i.sets,VI k.i.ways,.slice a1 k.i.es.length c1,VI k.d.sets,VI k.d.ways,.slice a2 k.d.es.length c2,VI k.p.sets,VI k.p.ways,.slice a3 k.p.es.length c3] 35)).alloc (Obj.cells #[VI 0,VU 0,VI 0,VI 0,SN,VI 0,VI 0,SN,VI 0,VI 0,SN] 208)).heap[w.heap.size+1]?=some (.cells #[VI k.i.sets,VI k.i.ways,.slice a1 k.i.es.length c1,VI k.d.sets,VI k.d.ways,.slice a2 k.d.es.length c2,VI k.p.sets,VI k.p.ways,.slice a3 k.p.es.length c3] 35 (0,0))):=by
  show _=_;rw [F7 _ _ (by simp)];have:=F6 (w.alloc (Obj.cells #[VI mode,.bool sum,.bool mxr,VU satp] 205)) (Obj.cells #[VI k.i.sets,VI k.i.ways,.slice a1 k.i.es.length c1,VI k.d.sets,VI k.d.ways,.slice a2 k.d.es.length c2,VI k.p.sets,VI k.p.ways,.slice a3 k.p.es.length c3] 35);simp only [World.size_alloc] at this;exact this
 have H3:Hid ((((w.alloc (Obj.cells #[VI mode,.bool sum,.bool mxr,VU satp] 205)).alloc (Obj.cells #[VI k.i.sets,VI k.i.ways,.slice a1 k.i.es.length c1,VI k.d.sets,VI k.d.ways,.slice a2 k.d.es.length c2,VI k.p.sets,VI k.p.ways,.slice a3 k.p.es.length c3] 35)).alloc (Obj.cells #[VI 0,VU 0,VI 0,VI 0,SN,VI 0,VI 0,SN,VI 0,VI 0,SN] 208)).heap[w.heap.size+1+1]?=some (.cells #[VI 0,VU 0,VI 0,VI 0,SN,VI 0,VI 0,SN,VI 0,VI 0,SN] 208 (0,0))):=by
  have:=F6 ((w.alloc (Obj.cells #[VI mode,.bool sum,.bool mxr,VU satp] 205)).alloc (Obj.cells #[VI k.i.sets,VI k.i.ways,.slice a1 k.i.es.length c1,VI k.d.sets,VI k.d.ways,.slice a2 k.d.es.length c2,VI k.p.sets,VI k.p.ways,.slice a3 k.p.es.length c3] 35)) (Obj.cells #[VI 0,VU 0,VI 0,VI 0,SN,VI 0,VI 0,SN,VI 0,VI 0,SN] 208);simp only [World.size_alloc] at this;exact this
 have l1:w.heap.size+1+1<(((w.alloc (Obj.cells #[VI mode,.bool sum,.bool mxr,VU satp] 205)).alloc (Obj.cells #[VI k.i.sets,VI k.i.ways,.slice a1 k.i.es.length c1,VI k.d.sets,VI k.d.ways,.slice a2 k.d.es.length c2,VI k.p.sets,VI k.p.ways,.slice a3 k.p.es.length c3] 35)).alloc (Obj.cells #[VI 0,VU 0,VI 0,VI 0,SN,VI 0,VI 0,SN,VI 0,VI 0,SN] 208)).heap.size:=by simp
 unfold kg;rcases (show q=false∨(q=true∧kind<0)∨(q=true∧0<=kind∧2<kind)∨(q=true∧0<=kind∧kind<=2∧mode<0)∨(q=true∧0<=kind∧kind<=2∧0<=mode∧2<mode)∨(q=true∧0<=kind∧kind<=2∧0<=mode∧mode<=2∧pick<0)∨(q=true∧0<=kind∧kind<=2∧0<=mode∧mode<=2∧0<=pick∧255<pick) by cases q <;> simp at hbad |- <;> omega) with rfl | ⟨rfl,h0⟩ | ⟨rfl,h0,h1⟩ | ⟨rfl,h0,h1,h2⟩ | ⟨rfl,h0,h1,h2,h3⟩ | ⟨rfl,h0,h1,h2,h3,h4⟩ | ⟨rfl,h0,h1,h2,h3,h4,h5⟩;all_goals
  clear hbad;go_enter Tryz.func102,Tryz.ntmps102;go_wp2_with fail;generalize (((w.alloc (Obj.cells #[VI mode,.bool sum,.bool mxr,VU satp] 205)).alloc (Obj.cells #[VI k.i.sets,VI k.i.ways,.slice a1 k.i.es.length c1,VI k.d.sets,VI k.d.ways,.slice a2 k.d.es.length c2,VI k.p.sets,VI k.p.ways,.slice a3 k.p.es.length c3] 35)).alloc (Obj.cells #[VI 0,VU 0,VI 0,VI 0,SN,VI 0,VI 0,SN,VI 0,VI 0,SN] 208))=v1 at n1 H1 H2 H3 l1 |-;refine (HK.out v1 n1).mono ?_;rintro e v2 ⟨rfl,n2⟩;have G3:Hid _:=ae H3.out n2 l1;have l2:=n2.size;obtain ⟨d0,d1,d2,d3⟩:=ig (ae H1.out n2 (by omega));obtain ⟨j0,j1,j2,j3,j4,j5,j6,j7,j8,j9,j10⟩:=jo G3.out;have ff:=jT G3.out;have f0:=ff 0;have f1:=ff 1;have f2:=ff 2;have f3:=ff 3;have f4:=ff 4;have f5:=ff 5;have f6:=ff 6;have f7:=ff 7;have f8:=ff 8;have f9:=ff 9;have f10:=ff 10;clear ff;go_wp2_with fail;refine bodyPost_ret (v:=.agg #[VI 63,VU 0,VI 0,VI 0,SN,VI 0,VI 0,SN,VI 0,VI 0,SN]) (by simp [results,Tryz.results102,go_sem,j0,j1,j2,j3,j4,j5,j6,j7,j8,j9,j10]) rfl
   ⟨⟨_,rfl,SN,SN,SN,rfl,tS _ _,tS _ _,tS _ _⟩,tQ (bst n1 n2) (by omega) _ _ _ _ _ _ _ _ _ _ _⟩
end
section
attribute [local go_sem ↓] Go.wp_at_zero Go.wp_at_succ
theorem iX {e:TypeId} {size:Nat} {w w':World} {base n g cap r:Nat} {cs:List Value} (h:w.ownsRow base e size (SL g n cap) n cs) (hg:w.grownBy w' (some r)) (hr:g≠r):w'.ownsRow base e size (SL g n cap) n cs:=by
 refine h.kept hg (.inr ?_);simp [Value.ownBlock];omega
theorem vk (a:Option Addr) (len cap:Nat) (mode:Int) (sum mxr:Bool) (satp:Int) (v:Value) (k:KM) (kind va pick:Int) (w:World) (h:KAt w v k)
 (hgood:iP k=true) (h0:0<=kind) (h1:kind<=2) (h2:0<=mode) (h3:mode<=2) (h4:0<=pick) (h5:pick<=255) (hs0:0<=satp) (hs1:satp<=18446744073709551615) (hon:onM mode satp=false):
 Calls Tryz.prog 102 #[.slice a len cap,kg mode sum mxr satp,v,VI kind,VU va,VI pick] w fun e w'=>(∃x,e=.returned x∧TransOwn w.heap.size w' x ((0,va),k))∧Bw w w':=by
 have HK:=hid fun u (hu:Bw w u)=>kF v k u (h.keep hu);have HL:=hid fun u (hu:Bw w u)=>lY v k u (h.keep hu);have HO:Hid (∀u,Calls Tryz.prog 124 #[kg mode sum mxr satp] u fun e w'=>e=.returned (.bool false)∧Bw u w'):=fun u=>by have:=qw mode sum mxr satp u hs0 hs1;rw [hon] at this;exact this
 obtain ⟨a1,c1,a2,c2,a3,c3,rfl,_⟩:=h;rw [hgood] at HK;clear hgood hon;obtain ⟨v1,Ev1,n1,H1,H2,H3,l1⟩:=al3 w #[VI mode,.bool sum,.bool mxr,VU satp] #[VI k.i.sets,VI k.i.ways,.slice a1 k.i.es.length c1,VI k.d.sets,VI k.d.ways,.slice a2 k.d.es.length c2,VI k.p.sets,VI k.p.ways,.slice a3 k.p.es.length c3] #[VI 0,VU 0,VI 0,VI 0,SN,VI 0,VI 0,SN,VI 0,VI 0,SN] 205 35 208;unfold kg at HO |-;go_enter Tryz.func102,Tryz.ntmps102;go_upto_region 1 with fail;rw [Ev1.out];clear Ev1;obtain ⟨⟨d0,d1,d2,d3⟩,_⟩:=ig H1.out;obtain ⟨b0,b1,b2,b3,b4,b5,b6,b7,b8⟩:=jr H2.out;go_cut [49] (fun s49 wx=>s49=.bool false∧Bw v1 wx)
 case first=>
  go_wp2_with fail;refine (HK.out v1 n1).mono ?_;rintro e v2 ⟨rfl,n2⟩;obtain ⟨⟨d0,d1,d2,d3⟩,_⟩:=ig (gZ H1 n2).out;go_wp2;go_meet;refine ⟨?_,n2⟩;simp;omega
 obtain ⟨rfl,n2⟩:=hcut;generalize wc=v2 at n2 |-;have l2:=n2.size;have n12:=bst n1 n2;have K1:=gZ H1 n2;have K2:=gZ H2 n2;have K3:=gZ H3 n2;clear d0 d1 d2 d3 b0 b1 b2 b3 b4 b5 b6 b7 b8;obtain ⟨⟨d0,d1,d2,d3⟩,_⟩:=ig K1.out;obtain ⟨b0,b1,b2,b3,b4,b5,b6,b7,b8⟩:=jr K2.out;have s0:w.heap.size+1+1<v2.heap.size:=by omega
 clear n1 n2 H1 H2 H3;go_wp2_with fail;refine (HL.out v2 n12).mono ?_;rintro e v3 ⟨⟨x,rfl,g1,e1,g2,e2,g3,e3,rfl,o1,o2,o3⟩,n3⟩;have l3:=n3.size;have n13:=bst n12 n3;have P1:=gZ K1 n3;have P2:=gZ K2 n3;have P3:=gZ K3 n3;have O1:Hid _:=o1;have O2:Hid _:=o2;have O3:Hid _:=o3;clear o1 o2 o3 n12 n3 K1 K2 K3 d0 d1 d2 d3 b0 b1 b2 b3 b4 b5 b6 b7 b8;obtain ⟨⟨d0,d1,d2,d3⟩,_⟩:=ig P1.out;have t0:w.heap.size<v3.heap.size:=by omega
 have t1:w.heap.size+1<v3.heap.size:=by omega
 have t2:w.heap.size+1+1<v3.heap.size:=by omega
 go_wp2_with fail;obtain ⟨v4,Ev4,n4,H4,l4⟩:=al1 v3 #[VI 0,VU 0,VI k.i.sets,VI k.i.ways,SL g1 k.i.es.length e1,VI k.d.sets,VI k.d.ways,SL g2 k.d.es.length e2,VI k.p.sets,VI k.p.ways,SL g3 k.p.es.length e3] 208;rw [Ev4.out];clear Ev4;refine (HO.out v4).mono ?_;rintro e v5 ⟨rfl,n5⟩;have l5:=n5.size;have n45:=bst n4 n5;have n15:=bst n13 n45;have Q3:=gZ P3 n45;have Q4:=gZ H4 n5;have U1:=ab O1.out n45;have U2:=ab O2.out n45;have U3:=ab O3.out n45;have a1':=eh O1.out;have a2':=eh O2.out;have a3':=eh O3.out;have V1:Hid _:=U1;have V2:Hid _:=U2;have V3:Hid _:=U3;have A1:Hid _:=a1';have A2:Hid _:=a2';have A3:Hid _:=a3';clear U1 U2 U3 a1' a2' a3' O1 O2 O3 n4 n5 P1 P2 P3 H4;obtain ⟨j0,j1,j2,j3,j4,j5,j6,j7,j8,j9,j10⟩:=jo Q3.out;obtain ⟨m0,m1,m2,m3,m4,m5,m6,m7,m8,m9,m10⟩:=jo Q4.out;have ff:=jT Q3.out;have f0:=ff 0;have f1:=ff 1;have f2:=ff 2;have f3:=ff 3;have f4:=ff 4;have f5:=ff 5;have f6:=ff 6;have f7:=ff 7;have f8:=ff 8;have f9:=ff 9;have f10:=ff 10;have gg:=jT Q4.out;have g0':=gg 0;have g1':=gg 1;clear ff gg;have ne1:v3.heap.size≠w.heap.size+1+1:=by omega
 have ne2:w.heap.size+1+1≠v3.heap.size:=by omega
 go_wp2_with fail;obtain ⟨_,z1,z1'⟩:=A1.out;obtain ⟨_,z2,z2'⟩:=A2.out;obtain ⟨_,z3,z3'⟩:=A3.out;have gO:=hZ (aM v5 (some v3.heap.size)) 1 (VU va);refine bodyPost_ret (v:=.agg #[VI 0,VU va,VI k.i.sets,VI k.i.ways,SL g1 k.i.es.length e1,VI k.d.sets,VI k.d.ways,SL g2 k.d.es.length e2,VI k.p.sets,VI k.p.ways,SL g3 k.p.es.length e3]) (by simp [results,Tryz.results102,go_sem,j0,j1,j2,j3,j4,j5,j6,j7,j8,j9,j10]) rfl
  ⟨⟨_,rfl,_,_,_,rfl,ir (iX (iX V1.out gO (by omega)) (tR _ (w.heap.size+1+1) _ _ _ _ _ _ _ _ _ _ _) (by omega)) (by omega),ir (iX (iX V2.out gO (by omega)) (tR _ (w.heap.size+1+1) _ _ _ _ _ _ _ _ _ _ _) (by omega)) (by omega),ir (iX (iX V3.out gO (by omega)) (tR _ (w.heap.size+1+1) _ _ _ _ _ _ _ _ _ _ _) (by omega)) (by omega)⟩,tQ (n15.setCell (p:=(AD v3.heap.size 1)) (by simp only;omega) _) (by omega) _ _ _ _ _ _ _ _ _ _ _⟩
end
structure HartM where
 mem:List Int
 regs:List Int
 pc:Int
 mode:Int
 sum:Bool
 mxr:Bool
 satp:Int
 tvec:Int
 epc:Int
 emode:Int
 cause:Int
 tval:Int
 k:KM
structure RunM where
 h:HartM
 cause:Int
 tval:Int
 looks:List (Int × Int)
 fenced:Bool
 fence:FenceM
def kD:FenceM:=⟨false,0,false,0⟩
def dt (satp:Int):Bool:=satp/1152921504606846976%16 == 0 || satp/1152921504606846976%16 == 8
def eA (n:Nat):Bool:=decide (n%64=0∧64<=n∧n<=4096)
def eB (h:HartM):Bool:=
 decide (h.regs.length=8) && (h.regs[0]?.getD 0 == 0) && decide (0<=h.mode∧h.mode<=2) && decide (0<=h.emode∧h.emode<=2) && dt h.satp && (h.tvec%4 == 0) && decide (0<=h.cause∧h.cause<=63)
def du (h:HartM):Bool:=eA h.mem.length && eB h && iP h.k
def aw (plain:Bool) (pick:Int) (h:HartM) (kind va:Int):(Int × Int) × KM:=
 if plain=true then (mx h.mem h.mode h.sum h.mxr h.satp kind va,h.k) else ay h.mem h.mode h.sum h.mxr h.satp h.k kind va pick
def withK (h:HartM) (k:KM):HartM:=⟨h.mem,h.regs,h.pc,h.mode,h.sum,h.mxr,h.satp,h.tvec,h.epc,h.emode,h.cause,h.tval,k⟩
def dv (h:HartM) (mem:List Int):HartM:=⟨mem,h.regs,h.pc,h.mode,h.sum,h.mxr,h.satp,h.tvec,h.epc,h.emode,h.cause,h.tval,h.k⟩
def dR (h:HartM) (regs:List Int):HartM:=⟨h.mem,regs,h.pc,h.mode,h.sum,h.mxr,h.satp,h.tvec,h.epc,h.emode,h.cause,h.tval,h.k⟩
def cQ (h:HartM) (pc:Int):HartM:=⟨h.mem,h.regs,pc,h.mode,h.sum,h.mxr,h.satp,h.tvec,h.epc,h.emode,h.cause,h.tval,h.k⟩
def aR (r:RunM) (h:HartM):RunM:=⟨h,r.cause,r.tval,r.looks,r.fenced,r.fence⟩
def bV (r:RunM) (cause tval:Int):RunM:=⟨r.h,cause,tval,r.looks,r.fenced,r.fence⟩
def bC (plain:Bool) (pick:Int) (r:RunM) (kind va:Int):RunM:=
 ⟨withK r.h (aw plain pick r.h kind va).2,r.cause,r.tval,r.looks++[(kind,va)],r.fenced,r.fence⟩
abbrev au:=Int × Int × Int
def jf (va w:Int):List au:=
 if 64-va%64<w then [(va,64-va%64,0),((va+(64-va%64))%18446744073709551616,w-(64-va%64),0)] else [(va,w,0)]
def hU (plain:Bool) (pick kind:Int):RunM->List au->RunM × List au
 | r,[]=>(r,[])
 | r,p::ps=>
  if (aw plain pick r.h kind p.1).1.1=0 then
   ((hU plain pick kind (bC plain pick r kind p.1) ps).1,(p.1,p.2.1,(aw plain pick r.h kind p.1).1.2)::(hU plain pick kind (bC plain pick r kind p.1) ps).2)
  else (bV (bC plain pick r kind p.1) (aw plain pick r.h kind p.1).1.1 p.1,p::ps)
def ly (mem:List Int):List au->Option Int
 | []=>none
 | p::ps=>if eM mem.length p.2.2 p.2.1=true then ly mem ps else some p.1
def iu (plain:Bool) (pick:Int) (r:RunM) (kind va w:Int):RunM × List au:=
 if (hU plain pick kind r (jf va w)).1.cause=0 then
  match ly (hU plain pick kind r (jf va w)).1.h.mem (hU plain pick kind r (jf va w)).2 with
  | none=>hU plain pick kind r (jf va w)
  | some v=>(bV (hU plain pick kind r (jf va w)).1 (aV kind) v,(hU plain pick kind r (jf va w)).2)
 else hU plain pick kind r (jf va w)
def aG (mem:List Int):List au->List Int
 | []=>[]
 | p::ps=>(mem.drop p.2.2.toNat).take p.2.1.toNat++aG mem ps
def fC (mem:List Int) (ps:List au):Int:=num (aG mem ps)
def fD:List Int->List au->List Int->List Int
 | mem,[],_=>mem
 | mem,p::ps,b=>fD (put mem p.2.2.toNat (b.take p.2.1.toNat)) ps (b.drop p.2.1.toNat)
def lK (h:HartM) (a:Int):Int:=h.regs[a.toNat]?.getD 0
def aU (r:RunM) (a x:Int):RunM:=aR r (dR r.h (if 0<a then r.h.regs.set a.toNat x else r.h.regs))
def fW (s:Int):Int:=if 128<=s then s-256 else s
def mr (n:Int):Int:=2^n.toNat
def cS (op c mode:Int):Bool:=
 decide (9<=op∧op<=11∧mode=0) || decide ((op=12∨op=13)∧mode≠2) || decide (op=13∧2<c)
def qB (h:HartM) (a b:Int):FenceM:=⟨decide (a≠0),lK h a,decide (b≠0),lK h b%65536⟩
def dx (k:KM) (f:FenceM):KM:=⟨bH k.i f,bH k.d f,bH k.p f⟩
def fE (plain:Bool) (pick:Int) (r:RunM) (ea w a:Int):RunM:=
 if (iu plain pick r 1 ea w).1.cause=0 then aU (iu plain pick r 1 ea w).1 a (fC (iu plain pick r 1 ea w).1.h.mem (iu plain pick r 1 ea w).2) else (iu plain pick r 1 ea w).1
def dy (t:RunM × List au) (b:List Int):RunM:=aR t.1 (dv t.1.h (fD t.1.h.mem t.2 b))
def oT (plain:Bool) (pick:Int) (r:RunM) (ea w x:Int):RunM:=
 if (iu plain pick r 2 ea w).1.cause=0 then dy (iu plain pick r 2 ea w) (jt x w.toNat) else (iu plain pick r 2 ea w).1
def gI (plain:Bool) (pick:Int) (r:RunM) (ea a x:Int):RunM:=
 if (iu plain pick r 2 ea 8).1.cause=0 then aU (dy (iu plain pick r 2 ea 8) (jt ((fC (iu plain pick r 2 ea 8).1.h.mem (iu plain pick r 2 ea 8).2+x)%18446744073709551616) 8)) a (fC (iu plain pick r 2 ea 8).1.h.mem (iu plain pick r 2 ea 8).2) else (iu plain pick r 2 ea 8).1
def eaM (h:HartM) (b s:Int):Int:=(lK h b+fW s)%18446744073709551616
def doM (plain:Bool) (pick:Int) (r:RunM) (pc op a b c s word:Int):RunM:=
 if cS op c r.h.mode=true then bV r 2 word
 else if op=1 then aU r a (fW s%18446744073709551616)
 else if op=2 then aU r a ((lK r.h b+lK r.h c)%18446744073709551616)
 else if op=3 then aU r a (eaM r.h b s)
 else if op=4 then aU r a (lK r.h b*mr (s%64)%18446744073709551616)
 else if op=5 then fE plain pick r (eaM r.h b s) (mr (c%4)) a
 else if op=6 then oT plain pick r (eaM r.h b s) (mr (c%4)) (lK r.h a)
 else if op=7 then gI plain pick r (eaM r.h b s) a (lK r.h c)
 else if op=8 then (if lK r.h a=lK r.h b then r else aR r (cQ r.h ((pc+4*fW s)%18446744073709551616)))
 else if op=9 then (if dt (lK r.h a)=true then aR r ⟨r.h.mem,r.h.regs,r.h.pc,r.h.mode,r.h.sum,r.h.mxr,lK r.h a,r.h.tvec,r.h.epc,r.h.emode,r.h.cause,r.h.tval,r.h.k⟩ else r)
 else if op=10 then aR r ⟨r.h.mem,r.h.regs,r.h.pc,r.h.mode,aS (lK r.h a) 1,aS (lK r.h a) 2,r.h.satp,r.h.tvec,r.h.epc,r.h.emode,r.h.cause,r.h.tval,r.h.k⟩
 else if op=11 then ⟨if plain=true then r.h else withK r.h (dx r.h.k (qB r.h a b)),r.cause,r.tval,r.looks,true,qB r.h a b⟩
 else if op=12 then aR r ⟨r.h.mem,r.h.regs,(r.h.epc+4*fW s)%18446744073709551616,r.h.emode,r.h.sum,r.h.mxr,r.h.satp,r.h.tvec,r.h.epc,r.h.emode,r.h.cause,r.h.tval,r.h.k⟩
 else if op=13 then aR r ⟨r.h.mem,r.h.regs,r.h.pc,r.h.mode,r.h.sum,r.h.mxr,r.h.satp,r.h.tvec,lK r.h a,c,r.h.cause,r.h.tval,r.h.k⟩
 else if op=14 then bV r (8+r.h.mode) 0
 else bV r 2 word
def kS (plain:Bool) (pick:Int) (r:RunM) (op p q s word:Int):RunM:=
 doM plain pick (aR r (cQ r.h ((r.h.pc+4)%18446744073709551616))) r.h.pc op (p%8) (p/8%8) (q%8) s word
def iF (t:TlbM) (n:Int):TlbM:=⟨t.sets,t.ways,t.es.set (n%t.es.length).toNat dZ⟩
def cT (plain:Bool) (pick:Int) (k:KM):KM:=
 if 128<=pick∧plain=false then ⟨iF k.i (pick-128),iF k.d (pick-128),iF k.p (pick-128)⟩ else k
def gn (plain:Bool) (pick:Int) (h:HartM):Int:=rdV h.mem (aw plain pick h 0 h.pc).1.2 4
def gJ (plain:Bool) (pick:Int) (r:RunM) (x:Int):RunM:=kS plain pick r (x%256) (x/256%256) (x/65536%256) (x/16777216) x
def eC (plain:Bool) (pick:Int) (r:RunM):RunM:=
 if r.h.pc%4=0 then
  if (aw plain pick r.h 0 r.h.pc).1.1=0 then
   if kc r.h.mem.length (aw plain pick r.h 0 r.h.pc).1.2 4=true then gJ plain pick (bC plain pick r 0 r.h.pc) (gn plain pick r.h)
   else bV (bC plain pick r 0 r.h.pc) 1 r.h.pc
  else bV (bC plain pick r 0 r.h.pc) (aw plain pick r.h 0 r.h.pc).1.1 r.h.pc
 else bV r 20 r.h.pc
def aW (plain:Bool) (pick:Int) (h:HartM):RunM:=⟨withK h (cT plain pick h.k),0,0,[],false,kD⟩
def dS (h:HartM) (r:RunM):HartM:=⟨h.mem,h.regs,h.tvec,2,h.sum,h.mxr,h.satp,h.tvec,h.pc,h.mode,r.cause,r.tval,r.h.k⟩
def gQ (h:HartM) (r:RunM):RunM:=if r.cause=0 then r else aR r (dS h r)
def jK (plain:Bool) (pick:Int) (h:HartM):RunM:=gQ h (eC plain pick (aW plain pick h))
structure EvM where
 pc:Int
 mode:Int
 cause:Int
 tval:Int
def kT (plain:Bool):List Int->HartM->List EvM × HartM
 | [],h=>([],h)
 | p::ps,h=>(⟨h.pc,h.mode,(jK plain p h).cause,(jK plain p h).tval⟩::(kT plain ps (jK plain p h).h).1,(kT plain ps (jK plain p h).h).2)
def atM (b:List Int) (i:Nat):Int:=b[i]?.getD 0
def jb (b:List Int) (i:Nat):Int:=num ((List.range 8).map fun k=>atM b (i+k))
def gY (y:Int):TlbM:=⟨2^(y%4).toNat,1+y/4%4,List.replicate (2^(y%4).toNat*(1+y/4%4).toNat) dZ⟩
def pw (b:List Int):Nat->Nat->Nat->List Int->List Int
 | 0,_,_,mem=>mem
 | m+1,i,a,mem=>pw b m (i+1) (a+1) (if a<mem.length then mem.set a (atM b i) else mem)
def tf (b:List Int) (i:Nat):Nat:=(atM b i+256*atM b (i+1)).toNat
def my (b:List Int):Nat->Nat->List Int->List Int × Nat
 | 0,i,mem=>(mem,i)
 | n+1,i,mem=>my b n (i+3+(atM b (i+2)).toNat) (pw b (atM b (i+2)).toNat (i+3) (tf b i) mem)
def iS (y:Int):Int:=if y%4=3 then 1 else y%4
def mu (b:List Int):Nat:=min (atM b 5+256*atM b 6).toNat 20000
def tp (b:List Int):List Int × Nat:=my b (atM b 87).toNat 88 (List.replicate (64*(1+(atM b 3%64).toNat)) 0)
def mU (b:List Int):List Int:=0::(List.range 7).map fun r=>jb b (31+8*r)
def iY (b:List Int):HartM:=
 ⟨(tp b).1,mU b,jb b 7,iS (atM b 4),atM b 4/4%2 == 1,atM b 4/8%2 == 1,if dt (jb b 23)=true then jb b 23 else 0,jb b 15/4*4,0,iS (atM b 4),0,0,⟨gY (atM b 0),gY (atM b 1),gY (atM b 2)⟩⟩
def jk (b:List Int):List Int:=(List.range (mu b)).map fun k=>atM b ((tp b).2+k)
abbrev mt:=Int × Int × Bool × aT
def ex (va satp:Int) (r:aT):mt:=(cW va r.1,aA satp,aS r.2.2 32,r)
def xC (gs:List mt) (f:FenceM):List mt:=gs.filter fun g=>!fS f g.2.2.2.1 g.1 g.2.1 g.2.2.1
def fx (g:mt) (e:EntM):Prop:=g.1=e.tag∧g.2.1=e.asid∧g.2.2.1=e.glob∧g.2.2.2.1=e.level∧g.2.2.2.2.2=e.pte
def CovT (t:TlbM) (gs:List mt):Prop:=∀e∈t.es,e.valid=true->∃g∈gs,fx g e
def CovK (k:KM) (gs:List mt):Prop:=CovT k.i gs∧CovT k.d gs∧CovT k.p gs
theorem CovT.mono {t:TlbM} {gs gs':List mt} (h:CovT t gs) (hs:∀g∈gs,g∈gs'):CovT t gs':=fun e he hv=>by
 obtain ⟨g,hg,hs'⟩:=h e he hv;exact ⟨g,hs g hg,hs'⟩
theorem CovK.mono {k:KM} {gs gs':List mt} (h:CovK k gs) (hs:∀g∈gs,g∈gs'):CovK k gs':=⟨h.1.mono hs,h.2.1.mono hs,h.2.2.mono hs⟩
theorem CovT.insert {t:TlbM} {gs:List mt} {e:EntM} {pick:Int} (h:CovT t gs) (he:∃g∈gs,fx g e):CovT (aC t e pick) gs:=by
 unfold aC;split
 ·intro x hx hv;rcases List.mem_or_eq_of_mem_set hx with hx | rfl
  ·exact h x hx hv
  ·exact he
 ·exact h
theorem ef (va satp:Int) (r:aT):fx (ex va satp r) (cN r.1 va satp r.2.2):=⟨rfl,rfl,rfl,rfl,rfl⟩
theorem CovT.ptrs {gs:List mt} {va satp pick:Int}:∀(rs:List aT) (p:TlbM),CovT p gs->(∀r∈rs,aq r.2.2 r.1=1->ex va satp r∈gs)->CovT (ji va satp pick rs p) gs
 | [],p,h,_=>h
 | r::rs,p,h,hr=>by
  rw [ji];refine CovT.ptrs rs _ ?_ (fun x hx=>hr x (List.mem_cons_of_mem _ hx));split
  ·rename_i hk;exact h.insert ⟨_,hr r (List.mem_cons_self ..) hk,ef va satp r⟩
  ·exact h
theorem CovT.flush {t:TlbM} {gs:List mt} {f:FenceM} (h:CovT t gs) (he:bw t=true):CovT (bH t f) (xC gs f):=by
 unfold bH;rw [if_pos he];intro x hx hv;simp only [List.mem_map] at hx;obtain ⟨y,hy,rfl⟩:=hx;unfold ja at hv |-;split at hv
 ·simp [dZ] at hv
 ·rename_i hc;rw [if_neg hc];obtain ⟨g,hg,h1,h2,h3,h4,h5⟩:=h y hy hv;refine ⟨g,?_,h1,h2,h3,h4,h5⟩;simp only [xC,List.mem_filter,h1,h2,h3,h4,Bool.not_eq_true'];refine ⟨hg,?_⟩;simp only [hv,Bool.true_and,Bool.not_eq_true] at hc;exact hc
theorem pU (t:TlbM) (n:Int) (p:Bool) (hv:ah t p=true):ah (iF t n) p=true:=by
 have hs:=bT hv;refine uK ?_ ?_
 ·simp only [mM,iF,decide_eq_true_eq,List.length_set];exact hs
 ·intro j x hx;simp only [iF,List.getElem?_set] at hx;split at hx
  ·split at hx
   ·cases hx;simp [aQ,dZ]
   ·cases hx
  ·exact bU hv j x hx
theorem eg (plain:Bool) (pick:Int) (k:KM) (h:iP k=true):iP (cT plain pick k)=true:=by
 unfold cT;split
 ·simp only [iP,Bool.and_eq_true] at h |-;exact ⟨⟨pU _ _ _ h.1.1,pU _ _ _ h.1.2⟩,pU _ _ _ h.2⟩
 ·exact h
theorem dM (k:KM) (f:FenceM) (h:iP k=true):iP (dx k f)=true:=by
 simp only [iP,dx,Bool.and_eq_true] at h |-;exact ⟨⟨bq _ _ _ h.1.1,bq _ _ _ h.1.2⟩,bq _ _ _ h.2⟩
theorem CovK.flush {k:KM} {gs:List mt} {f:FenceM} (h:CovK k gs) (hk:iP k=true):CovK (dx k f) (xC gs f):=by
 simp only [iP,Bool.and_eq_true] at hk;exact ⟨h.1.flush (jZ hk.1.1),h.2.1.flush (jZ hk.1.2),h.2.2.flush (jZ hk.2)⟩
theorem yS (a k:Nat):(a &&& 2^k != 0)=(a/2^k%2 == 1):=by
 have e:(a/2^k%2 == 1)=a.testBit k:=by rw [Nat.testBit_eq_decide_div_mod_eq];rfl
 rw [e];cases h:a.testBit k
 ·have:a &&& 2^k=0:=by
   apply Nat.eq_of_testBit_eq;intro i;rw [Nat.testBit_and,Nat.testBit_two_pow,Nat.zero_testBit];by_cases hi:k=i
   ·subst hi;simp [h]
   ·simp [hi]
  simp [this]
 ·have:a &&& 2^k≠0:=by
   intro h0;have:=congrArg (fun n=>n.testBit k) h0;simp [Nat.testBit_and,h] at this
  simpa using this
theorem oL (a m n:Nat):(a &&& (m ||| n) != 0)=((a &&& m != 0) || (a &&& n != 0)):=by
 rw [Nat.and_or_distrib_left];cases h:(a &&& m != 0) <;> cases h':(a &&& n != 0) <;> simp_all [Nat.or_eq_zero_iff]
def yT (x m:Int):Bool:=bits .and .u64 x m != 0
theorem ma (a m:Nat) (ha:a<18446744073709551616) (hm:m<18446744073709551616):yT a m=(a &&& m != 0):=by
 rw [yT,u64_and_nat a m ha hm];cases h:(a &&& m != 0)
 ·simp at h;simp [h]
 ·simp at h;simp;omega
theorem jW (k:Nat) (x p:Int) (hp:p=2^k) (hk:p<18446744073709551616) (h0:0<=x) (h1:x<=18446744073709551615):yT x p=aS x p:=by
 obtain ⟨a,rfl⟩:=Int.eq_ofNat_of_zero_le h0;have e:p=((2^k:Nat):Int):=by rw [hp];push_cast;rfl
 rw [e] at hk |-;rw [ma a (2^k) (by omega) (by omega),yS,aS];rw [show ((a:Int)/((2^k:Nat):Int)%2)=((a/2^k%2:Nat):Int) by omega];generalize a/2^k%2=t;rw [Bool.eq_iff_iff];simp only [beq_iff_eq];omega
theorem Dl (x:Int) (h0:0<=x) (h1:x<=18446744073709551615):yT x 14=(aS x 2 || aS x 4 || aS x 8):=by
 rw [<-jW 1 x 2 rfl (by omega) h0 h1,<-jW 2 x 4 rfl (by omega) h0 h1,<-jW 3 x 8 rfl (by omega) h0 h1];obtain ⟨a,rfl⟩:=Int.eq_ofNat_of_zero_le h0;rw [show (14:Int)=((14:Nat):Int) from rfl,show (2:Int)=((2:Nat):Int) from rfl,show (4:Int)=((4:Nat):Int) from rfl,show (8:Int)=((8:Nat):Int) from rfl];rw [ma a 14 (by omega) (by omega),ma a 2 (by omega) (by omega),ma a 4 (by omega) (by omega),ma a 8 (by omega) (by omega)];rw [<-oL,<-oL];rfl
theorem Dm (x:Int) (h0:0<=x) (h1:x<=18446744073709551615):yT x 208=(aS x 16 || aS x 64 || aS x 128):=by
 rw [<-jW 4 x 16 rfl (by omega) h0 h1,<-jW 6 x 64 rfl (by omega) h0 h1,<-jW 7 x 128 rfl (by omega) h0 h1];obtain ⟨a,rfl⟩:=Int.eq_ofNat_of_zero_le h0;rw [show (208:Int)=((208:Nat):Int) from rfl,show (16:Int)=((16:Nat):Int) from rfl,show (64:Int)=((64:Nat):Int) from rfl,show (128:Int)=((128:Nat):Int) from rfl];rw [ma a 208 (by omega) (by omega),ma a 16 (by omega) (by omega),ma a 64 (by omega) (by omega),ma a 128 (by omega) (by omega)];rw [<-oL,<-oL];rfl
theorem wm (k:Nat) (x m P:Int) (hP:P=2^k) (hm:m=P-1) (hk:m<18446744073709551616) (h0:0<=x) (h1:x<=18446744073709551615):bits .andNot .u64 x m=x/P*P:=by
 obtain ⟨a,rfl⟩:=Int.eq_ofNat_of_zero_le h0;have hp:1<=(2^k:Nat):=Nat.one_le_two_pow;have eP:P=((2^k:Nat):Int):=by rw [hP];push_cast;rfl
 have e:m=((2^k-1:Nat):Int):=by rw [hm,eP];omega
 rw [e] at hk |-;rw [eP,u64_andNot_nat a (2^k-1) (by omega) (by omega)];rw [show ((a:Int)/((2^k:Nat):Int)*((2^k:Nat):Int))=((a/2^k*2^k:Nat):Int) by push_cast;rfl];congr 1;apply Nat.eq_of_testBit_eq;intro i;have hk64:k<=64:=by
  rcases Nat.lt_or_ge 64 k with h | h
  ·have:2^65<=2^k:=Nat.pow_le_pow_right (by omega) h;omega
  ·exact h
 rw [Nat.testBit_and,Nat.testBit_mul_two_pow,Nat.testBit_div_two_pow];by_cases hi:k<=i
 ·by_cases hi':i<64
  ·have:(18446744073709551615-(2^k-1)).testBit i=true:=by
    rw [show 18446744073709551615-(2^k-1)=2^64-(2^k-1+1) by omega,Nat.testBit_two_pow_sub_succ (by omega),Nat.testBit_two_pow_sub_one];simp;omega
   rw [this];simp [hi,show i-k+k=i by omega]
  ·have:a.testBit i=false:=Nat.testBit_lt_two_pow (ltl (by omega:a<2^64) (Nat.pow_le_pow_right (by omega) (by omega)));simp [this,show i-k+k=i by omega]
 ·have:(18446744073709551615-(2^k-1)).testBit i=false:=by
   rw [show 18446744073709551615-(2^k-1)=2^64-(2^k-1+1) by omega,Nat.testBit_two_pow_sub_succ (by omega),Nat.testBit_two_pow_sub_one];simp;omega
  simp [this,hi]
theorem rj (k:Nat) (x y m P:Int) (hP:P=2^k) (hm:m=P-1) (hk:m<18446744073709551616) (h0:0<=x) (h1:x<=18446744073709551615) (g0:0<=y) (g1:y<=18446744073709551615):
 bits .or .u64 (bits .andNot .u64 x m) (bits .and .u64 y m)=x/P*P+y%P:=by
 have hp:1<=P:=by rw [hP];exact Int.pow_pos (by omega:(0:Int)<2)
 rw [wm k x m P hP hm hk h0 h1,kB k y m (by rw [hm,hP]) hk g0 g1,<-hP];have a1:0<=y%P:=Int.emod_nonneg _ (by omega);have a2:y%P<P:=Int.emod_lt_of_pos _ (by omega);have a3:0<=x/P:=Int.ediv_nonneg h0 (by omega);have a4:x/P*P<=x:=Int.ediv_mul_le _ (by omega);have a5:0<=x/P*P:=Int.mul_nonneg a3 (by omega);have hc:bits .or .u64 (x/P*P) (y%P)=bits .or .u64 (y%P) (x/P*P):=by
  rw [u64_or _ _ a5 (by omega) a1 (by omega),u64_or _ _ a1 (by omega) a5 (by omega),Nat.or_comm]
 rw [hc,kH k P (y%P) (x/P) hP a1 a2 a3 (by omega) (by omega)];omega
end Go.Proofs.YtjdmhibnhpdjaaaGreat
