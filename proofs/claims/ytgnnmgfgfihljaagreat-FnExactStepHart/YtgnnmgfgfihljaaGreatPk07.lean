import Derived.Test.YtgnnmgfgfihljaaGreatPk06
namespace Go.Proofs.YtgnnmgfgfihljaaGreat
open Go.RowKit
set_option linter.unusedVariables false
set_option maxHeartbeats 6400000
set_option maxRecDepth 20000
section
attribute [local go_sem ↓] Go.wp_at_zero Go.wp_at_succ
theorem aP {v:World} {p:Nat} {T:TypeId} {a b c d e f g h i:Value} (hh:v.heap[p]?=some (.cells #[a,b,c,d,e,f,g,h,i] T (0,0))):
 v.cell? ⟨p,0,none⟩=some a∧v.cell? ⟨p,1,none⟩=some b∧v.cell? ⟨p,2,none⟩=some c∧v.cell? ⟨p,3,none⟩=some d∧v.cell? ⟨p,4,none⟩=some e∧v.cell? ⟨p,5,none⟩=some f∧v.cell? ⟨p,6,none⟩=some g∧v.cell? ⟨p,7,none⟩=some h∧v.cell? ⟨p,8,none⟩=some i:=by
 simp [World.cell?,hh]
theorem BV {B:Nat} {a w:World} {g:Nat} (h:Below B a w) (hg:B<=g) (x y z u v t:Value):Below B a ((((((w.setCell ⟨g,0,none⟩ x).setCell ⟨g,1,none⟩ y).setCell ⟨g,2,none⟩ z).setCell ⟨g,3,none⟩ u).setCell ⟨g,4,none⟩ v).setCell ⟨g,5,none⟩ t):=
 (((fu h hg x y z).setCell (p:=⟨g,3,none⟩) hg u).setCell (p:=⟨g,4,none⟩) hg v).setCell (p:=⟨g,5,none⟩) hg t
theorem zL {B:Nat} {a w:World} {g:Nat} (h:Below B a w) (hg:B<=g) (x y z u v t p q r:Value):Below B a (((((((((w.setCell ⟨g,0,none⟩ x).setCell ⟨g,1,none⟩ y).setCell ⟨g,2,none⟩ z).setCell ⟨g,3,none⟩ u).setCell ⟨g,4,none⟩ v).setCell ⟨g,5,none⟩ t).setCell ⟨g,6,none⟩ p).setCell ⟨g,7,none⟩ q).setCell ⟨g,8,none⟩ r):=
 (((BV h hg x y z u v t).setCell (p:=⟨g,6,none⟩) hg p).setCell (p:=⟨g,7,none⟩) hg q).setCell (p:=⟨g,8,none⟩) hg r
theorem gb9 (w:World) (g:Nat) (x y z u v t p q r:Value):w.grownBy (((((((((w.setCell ⟨g,0,none⟩ x).setCell ⟨g,1,none⟩ y).setCell ⟨g,2,none⟩ z).setCell ⟨g,3,none⟩ u).setCell ⟨g,4,none⟩ v).setCell ⟨g,5,none⟩ t).setCell ⟨g,6,none⟩ p).setCell ⟨g,7,none⟩ q).setCell ⟨g,8,none⟩ r) (some g):=
 ak (ak (ak (ak (ak (ak (ak (ak (ak (au w (some g)) 0 x) 1 y) 2 z) 3 u) 4 v) 5 t) 6 p) 7 q) 8 r
theorem gj {v:World} {p:Nat} {T:TypeId} {cs:Array Value} (hh:v.heap[p]?=some (.cells cs T (0,0))) (i:Nat):v.frozen? ⟨p,i,none⟩=false:=by
 simp [World.frozen?,hh]
def KAt (w:World) (v:Value) (k:KM):Prop:=
 ∃a1 c1 a2 c2 a3 c3,v=.agg #[.int .i64 k.i.sets,.int .i64 k.i.ways,.slice a1 k.i.es.length c1,.int .i64 k.d.sets,.int .i64 k.d.ways,.slice a2 k.d.es.length c2,.int .i64 k.p.sets,.int .i64 k.p.ways,.slice a3 k.p.es.length c3]∧
  TlbAt w (.agg #[.int .i64 k.i.sets,.int .i64 k.i.ways,.slice a1 k.i.es.length c1]) k.i∧TlbAt w (.agg #[.int .i64 k.d.sets,.int .i64 k.d.ways,.slice a2 k.d.es.length c2]) k.d∧TlbAt w (.agg #[.int .i64 k.p.sets,.int .i64 k.p.ways,.slice a3 k.p.es.length c3]) k.p
theorem KAt.keep {w w':World} {v:Value} {k:KM} (h:KAt w v k) (hb:Below w.heap.size w w'):KAt w' v k:=by
 obtain ⟨a1,c1,a2,c2,a3,c3,rfl,h1,h2,h3⟩:=h;exact ⟨a1,c1,a2,c2,a3,c3,rfl,h1.keep hb,h2.keep hb,h3.keep hb⟩
theorem dB (v:Value) (k:KM) (w:World) (h:KAt w v k):
 Calls Tryz.prog 48 #[v] w fun e w'=>e=.returned (.bool (bf k))∧Below w.heap.size w w':=by
 obtain ⟨a1,c1,a2,c2,a3,c3,rfl,t1,t2,t3⟩:=h;obtain ⟨q1,hq1⟩:∃q,aL k.i false=q:=⟨_,rfl⟩;obtain ⟨q2,hq2⟩:∃q,aL k.d false=q:=⟨_,rfl⟩;obtain ⟨q3,hq3⟩:∃q,aL k.p true=q:=⟨_,rfl⟩;unfold bf;rw [hq1,hq2,hq3];have n1:=(Below.refl w.heap.size w).alloc nle (Obj.cells #[.int .i64 k.i.sets,.int .i64 k.i.ways,.slice a1 k.i.es.length c1,.int .i64 k.d.sets,.int .i64 k.d.ways,.slice a2 k.d.es.length c2,.int .i64 k.p.sets,.int .i64 k.p.ways,.slice a3 k.p.es.length c3] 37);have HV1:Hid (∀v,Below w.heap.size w v->Calls Tryz.prog 82 #[.agg #[.int .i64 k.i.sets,.int .i64 k.i.ways,.slice a1 k.i.es.length c1],.bool false] v fun e w'=>e=.returned (.bool q1)∧Below v.heap.size v w'):=fun v hv=>by
  have:=eM _ _ false v (t1.keep hv);rw [hq1] at this;exact this
 have HV2:Hid (∀v,Below w.heap.size w v->Calls Tryz.prog 82 #[.agg #[.int .i64 k.d.sets,.int .i64 k.d.ways,.slice a2 k.d.es.length c2],.bool false] v fun e w'=>e=.returned (.bool q2)∧Below v.heap.size v w'):=fun v hv=>by
  have:=eM _ _ false v (t2.keep hv);rw [hq2] at this;exact this
 have HV3:Hid (∀v,Below w.heap.size w v->Calls Tryz.prog 82 #[.agg #[.int .i64 k.p.sets,.int .i64 k.p.ways,.slice a3 k.p.es.length c3],.bool true] v fun e w'=>e=.returned (.bool q3)∧Below v.heap.size v w'):=fun v hv=>by
  have:=eM _ _ true v (t3.keep hv);rw [hq3] at this;exact this
 have H1:Hid (∀v,Below (w.heap.size+1) (w.alloc (Obj.cells #[.int .i64 k.i.sets,.int .i64 k.i.ways,.slice a1 k.i.es.length c1,.int .i64 k.d.sets,.int .i64 k.d.ways,.slice a2 k.d.es.length c2,.int .i64 k.p.sets,.int .i64 k.p.ways,.slice a3 k.p.es.length c3] 37)) v->v.heap[w.heap.size]?=some (.cells #[.int .i64 k.i.sets,.int .i64 k.i.ways,.slice a1 k.i.es.length c1,.int .i64 k.d.sets,.int .i64 k.d.ways,.slice a2 k.d.es.length c2,.int .i64 k.p.sets,.int .i64 k.p.ways,.slice a3 k.p.es.length c3] 37 (0,0))):=
  fun v hv=>(hv.block w.heap.size (by omega)).trans (heap_alloc_new w _)
 clear t1 t2 t3 hq1 hq2 hq3;generalize k.i.sets=s1 at *;generalize k.i.ways=w1 at *;generalize k.i.es.length=m1 at *;generalize k.d.sets=s2 at *;generalize k.d.ways=w2 at *;generalize k.d.es.length=m2 at *;generalize k.p.sets=s3 at *;generalize k.p.ways=w3 at *;generalize k.p.es.length=m3 at *;cases q1
 ·go_enter Tryz.func48,Tryz.ntmps48;go_wp2_with fail;refine (HV1.out _ n1).mono ?_;rintro e v2 ⟨rfl,n2⟩;have n12:=bst n1 n2;go_wp2_with fail;go_ret;exact ⟨rfl,n12⟩
 ·go_enter Tryz.func48,Tryz.ntmps48;go_wp2_with fail;refine (HV1.out _ n1).mono ?_;rintro e v2 ⟨rfl,n2⟩;have n12:=bst n1 n2;have K2:=aP (H1.out v2 (n2.mono (by simp)));obtain ⟨x0,x1,x2,x3,x4,x5,x6,x7,x8⟩:=K2;cases q2
  ·go_wp2_with fail;refine (HV2.out _ n12).mono ?_;rintro e v3 ⟨rfl,n3⟩;have n13:=bst n12 n3;go_wp2_with fail;go_ret;exact ⟨rfl,n13⟩
  ·go_wp2_with fail;refine (HV2.out _ n12).mono ?_;rintro e v3 ⟨rfl,n3⟩;have n13:=bst n12 n3;have n23:=bst n2 n3;clear x0 x1 x2 x3 x4 x5 x6 x7 x8;have K3:=aP (H1.out v3 (n23.mono (by simp)));obtain ⟨x0,x1,x2,x3,x4,x5,x6,x7,x8⟩:=K3;go_wp2_with fail;refine (HV3.out _ n13).mono ?_;rintro e v4 ⟨rfl,n4⟩;have n14:=bst n13 n4;go_wp2_with fail;go_ret;exact ⟨by simp,n14⟩
theorem oH (level va satp pte:Int) (w:World) (hl0:0<=level) (hl2:level<=2) (hv0:0<=va) (hv1:va<=18446744073709551615) (hs0:0<=satp) (hs1:satp<=18446744073709551615) (hp0:0<=pte) (hp1:pte<=18446744073709551615):
 Calls Tryz.prog 157 #[.int .i64 level,.int .u64 va,.int .u64 satp,.int .u64 pte] w fun e w'=>e=.returned (kW (ee level va satp pte))∧Below w.heap.size w w':=by
 unfold kW ee;simp only;have n1:=(Below.refl w.heap.size w).alloc nle (Obj.cells #[.bool false,.int .i64 0,.int .u64 0,.int .u64 0,.bool false,.int .u64 0] 153);go_enter Tryz.func157,Tryz.ntmps157;go_wp2_with (first
  | (go_at_call 176;refine (qz va level _ hv0 hv1 hl0 hl2).mono ?_;rintro e w' ⟨rfl,nq,rfl⟩)
  | (go_at_call 152;refine (nP satp _ hs0 hs1).mono ?_;rintro e w' ⟨rfl,nr,rfl⟩)
  | (go_at_call 124;refine (bO pte 5 32 _ hp0 hp1 (by omega) (by omega) rfl).mono ?_;rintro e w' ⟨rfl,ns,rfl⟩))
 exact bodyPost_ret (v:=.agg #[.bool true,.int .i64 level,.int .u64 (eF va level),.int .u64 (aG satp),.bool (bj pte 32),.int .u64 pte]) (by simp [results,Tryz.results157,go_sem]) rfl ⟨rfl,BV (below_drewN n1 _) nle _ _ _ _ _ _⟩
def KOwn (base:Nat) (w:World) (v:Value) (k:KM):Prop:=
 ∃g1 c1 g2 c2 g3 c3,v=.agg #[.int .i64 k.i.sets,.int .i64 k.i.ways,.slice (some ⟨g1,0,none⟩) k.i.es.length c1,.int .i64 k.d.sets,.int .i64 k.d.ways,.slice (some ⟨g2,0,none⟩) k.d.es.length c2,.int .i64 k.p.sets,.int .i64 k.p.ways,.slice (some ⟨g3,0,none⟩) k.p.es.length c3]∧
  w.ownsRow base 153 6 (.slice (some ⟨g1,0,none⟩) k.i.es.length c1) k.i.es.length (az k.i.es)∧w.ownsRow base 153 6 (.slice (some ⟨g2,0,none⟩) k.d.es.length c2) k.d.es.length (az k.d.es)∧w.ownsRow base 153 6 (.slice (some ⟨g3,0,none⟩) k.p.es.length c3) k.p.es.length (az k.p.es)
theorem fQ (v:Value) (k:KM) (w:World) (h:KAt w v k):
 Calls Tryz.prog 83 #[v] w fun e w'=>(∃x,e=.returned x∧KOwn w.heap.size w' x k)∧Below w.heap.size w w':=by
 obtain ⟨a1,c1,a2,c2,a3,c3,rfl,t1,t2,t3⟩:=h;have HL1:=hid fun v (hv:Below w.heap.size w v)=>gc _ _ v (t1.keep hv);have HL2:=hid fun v (hv:Below w.heap.size w v)=>gc _ _ v (t2.keep hv);have HL3:=hid fun v (hv:Below w.heap.size w v)=>gc _ _ v (t3.keep hv);clear t1 t2 t3;unfold TlbOwn at HL1 HL2 HL3;unfold KOwn;generalize k.i.es=e1 at *;generalize k.d.es=e2 at *;generalize k.p.es=e3 at *;generalize k.i.sets=s1 at *;generalize k.i.ways=w1 at *;generalize k.d.sets=s2 at *;generalize k.d.ways=w2 at *;generalize k.p.sets=s3 at *;generalize k.p.ways=w3 at *;obtain ⟨m1,hm1⟩:∃m,e1.length=m:=⟨_,rfl⟩;obtain ⟨m2,hm2⟩:∃m,e2.length=m:=⟨_,rfl⟩;obtain ⟨m3,hm3⟩:∃m,e3.length=m:=⟨_,rfl⟩;rw [hm1] at HL1 |-;rw [hm2] at HL2 |-;rw [hm3] at HL3 |-;clear hm1 hm2 hm3;generalize az e1=q1 at *;generalize az e2=q2 at *;generalize az e3=q3 at *;have n1:=((Below.refl w.heap.size w).alloc nle (Obj.cells #[.int .i64 s1,.int .i64 w1,.slice a1 m1 c1,.int .i64 s2,.int .i64 w2,.slice a2 m2 c2,.int .i64 s3,.int .i64 w3,.slice a3 m3 c3] 37)).alloc (by simp) (Obj.cells #[.int .i64 0,.int .i64 0,.slice none 0 0,.int .i64 0,.int .i64 0,.slice none 0 0,.int .i64 0,.int .i64 0,.slice none 0 0] 37);have H1:Hid (((w.alloc (Obj.cells #[.int .i64 s1,.int .i64 w1,.slice a1 m1 c1,.int .i64 s2,.int .i64 w2,.slice a2 m2 c2,.int .i64 s3,.int .i64 w3,.slice a3 m3 c3] 37)).alloc (Obj.cells #[.int .i64 0,.int .i64 0,.slice none 0 0,.int .i64 0,.int .i64 0,.slice none 0 0,.int .i64 0,.int .i64 0,.slice none 0 0] 37)).heap[w.heap.size]?=some (.cells #[.int .i64 s1,.int .i64 w1,.slice a1 m1 c1,.int .i64 s2,.int .i64 w2,.slice a2 m2 c2,.int .i64 s3,.int .i64 w3,.slice a3 m3 c3] 37 (0,0))):=by
  show _=_;rw [heap_alloc_old _ _ (by simp)];exact heap_alloc_new w _
 have H2:Hid (((w.alloc (Obj.cells #[.int .i64 s1,.int .i64 w1,.slice a1 m1 c1,.int .i64 s2,.int .i64 w2,.slice a2 m2 c2,.int .i64 s3,.int .i64 w3,.slice a3 m3 c3] 37)).alloc (Obj.cells #[.int .i64 0,.int .i64 0,.slice none 0 0,.int .i64 0,.int .i64 0,.slice none 0 0,.int .i64 0,.int .i64 0,.slice none 0 0] 37)).heap[w.heap.size+1]?=some (.cells #[.int .i64 0,.int .i64 0,.slice none 0 0,.int .i64 0,.int .i64 0,.slice none 0 0,.int .i64 0,.int .i64 0,.slice none 0 0] 37 (0,0))):=by
  have:=heap_alloc_new (w.alloc (Obj.cells #[.int .i64 s1,.int .i64 w1,.slice a1 m1 c1,.int .i64 s2,.int .i64 w2,.slice a2 m2 c2,.int .i64 s3,.int .i64 w3,.slice a3 m3 c3] 37)) (Obj.cells #[.int .i64 0,.int .i64 0,.slice none 0 0,.int .i64 0,.int .i64 0,.slice none 0 0,.int .i64 0,.int .i64 0,.slice none 0 0] 37);simp only [World.size_alloc] at this;exact this
 have l1:w.heap.size+1<((w.alloc (Obj.cells #[.int .i64 s1,.int .i64 w1,.slice a1 m1 c1,.int .i64 s2,.int .i64 w2,.slice a2 m2 c2,.int .i64 s3,.int .i64 w3,.slice a3 m3 c3] 37)).alloc (Obj.cells #[.int .i64 0,.int .i64 0,.slice none 0 0,.int .i64 0,.int .i64 0,.slice none 0 0,.int .i64 0,.int .i64 0,.slice none 0 0] 37)).heap.size:=by simp
 go_enter Tryz.func83,Tryz.ntmps83;go_wp2_with fail;generalize ((w.alloc (Obj.cells #[.int .i64 s1,.int .i64 w1,.slice a1 m1 c1,.int .i64 s2,.int .i64 w2,.slice a2 m2 c2,.int .i64 s3,.int .i64 w3,.slice a3 m3 c3] 37)).alloc (Obj.cells #[.int .i64 0,.int .i64 0,.slice none 0 0,.int .i64 0,.int .i64 0,.slice none 0 0,.int .i64 0,.int .i64 0,.slice none 0 0] 37))=v1 at n1 H1 H2 l1 |-;have HC:=hid fun v (hv:Below v1.heap.size v1 v)=>aP (ae H1.out hv (by omega));obtain ⟨b0,b1,b2,b3,b4,b5,b6,b7,b8⟩:=HC.out v1 (Below.refl _ _);have i1:w.heap.size+1≠w.heap.size:=by omega
 have i2:w.heap.size≠w.heap.size+1:=by omega
 go_region_held3 (fun w'=>w'.cell? ⟨w.heap.size,0,none⟩=some (.int .i64 s1)∧w'.cell? ⟨w.heap.size,1,none⟩=some (.int .i64 w1)∧w'.cell? ⟨w.heap.size,2,none⟩=some (.slice a1 m1 c1)∧w'.cell? ⟨w.heap.size,3,none⟩=some (.int .i64 s2)∧w'.cell? ⟨w.heap.size,4,none⟩=some (.int .i64 w2)∧w'.cell? ⟨w.heap.size,5,none⟩=some (.slice a2 m2 c2)∧w'.cell? ⟨w.heap.size,6,none⟩=some (.int .i64 s3)∧w'.cell? ⟨w.heap.size,7,none⟩=some (.int .i64 w3)∧w'.cell? ⟨w.heap.size,8,none⟩=some (.slice a3 m3 c3)) (go_keep)
  (first
   | (go_at_call_of 84 (Value.agg #[Value.int IntKind.i64 s1,Value.int IntKind.i64 w1,Value.slice a1 m1 c1]);refine (HL1.out _ (bst n1 (Below.refl v1.heap.size v1).drew)).mono ?_;rintro e y1 ⟨⟨x1,rfl,g1,d1,rfl,o1⟩,n1'⟩;have my1:Below v1.heap.size v1 y1:=bst (Below.refl v1.heap.size v1).drew n1';have kk:=HC.out y1 my1;obtain ⟨z10,z11,z12,z13,z14,z15,z16,z17,z18⟩:=kk;have OO1:Hid _:=o1;clear o1)
   | (go_at_call_of 84 (Value.agg #[Value.int IntKind.i64 s2,Value.int IntKind.i64 w2,Value.slice a2 m2 c2]);refine (HL2.out _ (bst n1 my1)).mono ?_;rintro e y2 ⟨⟨x2,rfl,g2,d2,rfl,o2⟩,n2'⟩;have my2:Below v1.heap.size v1 y2:=bst my1 n2';have kk:=HC.out y2 my2;obtain ⟨z20,z21,z22,z23,z24,z25,z26,z27,z28⟩:=kk;have OO2:Hid _:=o2;clear o2;have OP1:Hid _:=ag OO1.out n2';clear OO1)
   | (go_at_call_of 84 (Value.agg #[Value.int IntKind.i64 s3,Value.int IntKind.i64 w3,Value.slice a3 m3 c3]);refine (HL3.out _ (bst n1 my2)).mono ?_;rintro e y3 ⟨⟨x3,rfl,g3,d3,rfl,o3⟩,n3'⟩;have my3:Below v1.heap.size v1 y3:=bst my2 n3';have kk:=HC.out y3 my3;obtain ⟨z30,z31,z32,z33,z34,z35,z36,z37,z38⟩:=kk;have OO3:Hid _:=o3;clear o3;have OP1':Hid _:=ag OP1.out n3';have OP2:Hid _:=ag OO2.out n3';clear OP1 OO2;have F3:=ab H2 my3;have ff:=gj F3.out;have f0:=ff 0;have f1:=ff 1;have f2:=ff 2;have f3:=ff 3;have f4:=ff 4;have f5:=ff 5;have f6:=ff 6;have f7:=ff 7;have f8:=ff 8;have kk:=aP F3.out;obtain ⟨j0,j1,j2,j3,j4,j5,j6,j7,j8⟩:=kk;clear ff))
 go_wp2_with fail;have r1:=Nat.lt_of_lt_of_le l1 my1.size;have r2:=Nat.lt_of_lt_of_le l1 my2.size;exact bodyPost_ret (v:=.agg #[.int .i64 s1,.int .i64 w1,.slice (some ⟨g1,0,none⟩) m1 d1,.int .i64 s2,.int .i64 w2,.slice (some ⟨g2,0,none⟩) m2 d2,.int .i64 s3,.int .i64 w3,.slice (some ⟨g3,0,none⟩) m3 d3]) (by simp [results,Tryz.results83,go_sem,j0,j1,j2,j3,j4,j5,j6,j7,j8]) rfl
  ⟨⟨_,rfl,g1,d1,g2,d2,g3,d3,rfl,aK (bX OP1'.out (gb9 y3 (w.heap.size+1) _ _ _ _ _ _ _ _ _) l1) (Nat.le_of_lt (Nat.lt_trans (Nat.lt_succ_self _) l1)),aK (bX OP2.out (gb9 y3 (w.heap.size+1) _ _ _ _ _ _ _ _ _) r1) (by omega),aK (bX OO3.out (gb9 y3 (w.heap.size+1) _ _ _ _ _ _ _ _ _) r2) (by omega)⟩,zL (bst n1 my3) (by omega) _ _ _ _ _ _ _ _ _⟩
theorem KOwn.at {base:Nat} {w:World} {v:Value} {k:KM} (h:KOwn base w v k) (h1:eh k.i) (h2:eh k.d) (h3:eh k.p):KAt w v k:=by
 obtain ⟨g1,c1,g2,c2,g3,c3,rfl,o1,o2,o3⟩:=h;exact ⟨some ⟨g1,0,none⟩,c1,some ⟨g2,0,none⟩,c2,some ⟨g3,0,none⟩,c3,rfl,TlbOwn.at ⟨g1,c1,rfl,o1⟩ h1,TlbOwn.at ⟨g2,c2,rfl,o2⟩ h2,TlbOwn.at ⟨g3,c3,rfl,o3⟩ h3⟩
end
theorem lV (zs:List Int) (va:Int):∀(l:Nat) (n:Int),(cE zs va l n).1=1∨(cE zs va l n).1=2∨(cE zs va l n).1=3
 | 0,n=>by
  unfold cE;split
  ·simp
  ·split
   ·simp
   ·split <;> simp
 | l+1,n=>by
  unfold cE;split
  ·simp
  ·split
   ·simp
   ·split
    ·simp
    ·exact lV zs va l _
theorem lW (zs:List Int) (root va:Int):(ce zs root va).1=1∨(ce zs root va).1=2∨(ce zs root va).1=3:=by
 unfold ce;split
 ·simp
 ·exact lV zs va 2 _
theorem xI (va level:Int) (h0:0<=level) (h2:level<=2):0<=eF va level∧eF va level<jR level:=by
 unfold eF jR;rcases (show level=0∨level=1∨level=2 by omega) with rfl | rfl | rfl <;> simp <;> omega
theorem oJ {pte level:Int} (h:bu pte level≠0):0<=level∧level<=2:=by
 unfold bu at h;split at h
 ·exact absurd rfl h
 ·omega
theorem iW (level va satp pte:Int) (p:Bool) (hk:bu pte level=gD p):aW (ee level va satp pte) p=true:=by
 have hl:=oJ (by rw [hk];cases p <;> decide);have ht:=xI va level hl.1 hl.2;have ha:aG satp<=65535:=by unfold aG;omega
 simp [aW,ee,hl.1,hl.2,ht.2,ha,hk]
theorem uZ (level va satp pte:Int) (p:Bool) (hk:bu pte level=gD p):0<=(ee level va satp pte).tag:=by
 have hl:=oJ (by rw [hk];cases p <;> decide);exact (xI va level hl.1 hl.2).1
theorem lY (va satp pick:Int):∀(rs:List dG) (p:TlbM),aL p true=true->aL (cx va satp pick rs p) true=true
 | [],p,h=>h
 | r::rs,p,h=>by
  rw [cx];refine lY va satp pick rs _ ?_;split
  ·rename_i hk;exact jn p _ pick true h (iW _ _ _ _ true hk) (uZ _ _ _ _ true hk)
  ·exact h
theorem lZ (zs:List Int) (va:Int):∀(l:Nat) (n:Int),(cE zs va l n).1=1->bu (cE zs va l n).2.2.1 (cE zs va l n).2.1=2
 | 0,n=>by
  intro h;unfold cE at h |-;split at h
  ·simp at h
  ·rename_i h1;rw [if_neg h1];split at h
   ·simp at h
   ·rename_i h2;rw [if_neg h2];split at h
    ·rename_i h3;rw [if_pos h3];exact h3
    ·simp at h
 | l+1,n=>by
  intro h;unfold cE at h |-;split at h
  ·simp at h
  ·rename_i h1;rw [if_neg h1];split at h
   ·simp at h
   ·rename_i h2;rw [if_neg h2];split at h
    ·rename_i h3;rw [if_pos h3];exact h3
    ·rename_i h3;rw [if_neg h3];exact lZ zs va l _ h
theorem wR (zs:List Int) (root va:Int) (h:(ce zs root va).1=1):bu (ce zs root va).2.2.1 (ce zs root va).2.1=2:=by
 unfold ce at h |-;split at h
 ·simp at h
 ·rename_i hc;rw [if_neg hc];exact lZ zs va 2 _ h
theorem qP (kind:Int):dL kind≠0:=by
 unfold dL;split
 ·decide
 ·split <;> decide
theorem ik (kind:Int):bE kind≠0:=by
 unfold bE;split
 ·decide
 ·split <;> decide
theorem wS (zs:List Int) (mode:Int) (sum mxr:Bool) (satp:Int) (k:KM) (kind va pick:Int) (hk:bf k=true) (h1:0<=kind∧kind<=2) (h2:0<=mode∧mode<=2) (h3:0<=pick∧pick<=255):
 bf (ct zs mode sum mxr satp k kind va pick).2=true:=by
 have hk':=hk;simp only [bf,Bool.and_eq_true] at hk';obtain ⟨⟨gi,gd⟩,gp⟩:=hk';unfold ct;rw [if_neg (by rw [hk];simp;omega)];split
 ·exact hk
 ·split
  ·exact hk
  ·split
   ·exact hk
   ·simp only;have gp':=lY va satp pick (aY zs satp va (aU k.p va (aG satp))).2.2.2 k.p gp;split
    ·rename_i ha;have hkind:bu (aY zs satp va (aU k.p va (aG satp))).2.2.1 (aY zs satp va (aU k.p va (aG satp))).2.1=2:=by
      have hcode:(aY zs satp va (aU k.p va (aG satp))).1=1:=by
       have hc:(aY zs satp va (aU k.p va (aG satp))).1=1∨(aY zs satp va (aU k.p va (aG satp))).1=2∨(aY zs satp va (aU k.p va (aG satp))).1=3:=by
        unfold aY;split
        ·exact lV zs va _ _
        ·exact lW zs satp va
       unfold cK at ha;rcases hc with hc | hc | hc
       ·exact hc
       ·rw [if_pos hc] at ha;exact absurd ha (qP kind)
       ·rw [if_neg (by rw [hc];decide),if_pos hc] at ha;exact absurd ha (ik kind)
      unfold aY at hcode |-;split at hcode
      ·rename_i hu;rw [if_pos hu];exact lZ zs va _ _ hcode
      ·rename_i hu;rw [if_neg hu];exact wR zs satp va hcode
     have hge:=iW _ va satp _ false hkind;have hgt:=uZ _ va satp _ false hkind;unfold rJ ep;split
     ·simp only [bf,Bool.and_eq_true];exact ⟨⟨jn _ _ pick false gi hge hgt,gd⟩,gp'⟩
     ·simp only [bf,Bool.and_eq_true];exact ⟨⟨gi,jn _ _ pick false gd hge hgt⟩,gp'⟩
    ·simp only [bf,Bool.and_eq_true];exact ⟨⟨gi,gd⟩,gp'⟩
section
attribute [local go_sem ↓] Go.wp_at_zero Go.wp_at_succ
def TransOwn (base:Nat) (w:World) (v:Value) (r:(Int × Int) × KM):Prop:=
 ∃s1 s2 s3,v=.agg #[.int .i64 r.1.1,.int .u64 r.1.2,.int .i64 r.2.i.sets,.int .i64 r.2.i.ways,s1,.int .i64 r.2.d.sets,.int .i64 r.2.d.ways,s2,.int .i64 r.2.p.sets,.int .i64 r.2.p.ways,s3]∧
  w.ownsRow base 153 6 s1 r.2.i.es.length (az r.2.i.es)∧w.ownsRow base 153 6 s2 r.2.d.es.length (az r.2.d.es)∧w.ownsRow base 153 6 s3 r.2.p.es.length (az r.2.p.es)
theorem cD {v:World} {p:Nat} {T:TypeId} {a b c d e f g h i j k:Value} (hh:v.heap[p]?=some (.cells #[a,b,c,d,e,f,g,h,i,j,k] T (0,0))):
 v.cell? ⟨p,0,none⟩=some a∧v.cell? ⟨p,1,none⟩=some b∧v.cell? ⟨p,2,none⟩=some c∧v.cell? ⟨p,3,none⟩=some d∧v.cell? ⟨p,4,none⟩=some e∧v.cell? ⟨p,5,none⟩=some f∧v.cell? ⟨p,6,none⟩=some g∧v.cell? ⟨p,7,none⟩=some h∧v.cell? ⟨p,8,none⟩=some i∧v.cell? ⟨p,9,none⟩=some j∧v.cell? ⟨p,10,none⟩=some k:=by
 simp [World.cell?,hh]
theorem dt {v:World} {p:Nat} {T:TypeId} {xs:Array Value} (hh:v.heap[p]?=some (.cells xs T (0,0))) (i:Nat):v.frozen? ⟨p,i,none⟩=false:=by
 simp [World.frozen?,hh]
theorem pH {B:Nat} {a w:World} {g:Nat} (h:Below B a w) (hg:B<=g) (x0 x1 x2 x3 x4 x5 x6 x7 x8 x9 x10:Value):Below B a (((((((((((w.setCell ⟨g,0,none⟩ x0).setCell ⟨g,1,none⟩ x1).setCell ⟨g,2,none⟩ x2).setCell ⟨g,3,none⟩ x3).setCell ⟨g,4,none⟩ x4).setCell ⟨g,5,none⟩ x5).setCell ⟨g,6,none⟩ x6).setCell ⟨g,7,none⟩ x7).setCell ⟨g,8,none⟩ x8).setCell ⟨g,9,none⟩ x9).setCell ⟨g,10,none⟩ x10):=
 (((((((((((h.setCell (p:=⟨g,0,none⟩) hg x0).setCell (p:=⟨g,1,none⟩) hg x1).setCell (p:=⟨g,2,none⟩) hg x2).setCell (p:=⟨g,3,none⟩) hg x3).setCell (p:=⟨g,4,none⟩) hg x4).setCell (p:=⟨g,5,none⟩) hg x5).setCell (p:=⟨g,6,none⟩) hg x6).setCell (p:=⟨g,7,none⟩) hg x7).setCell (p:=⟨g,8,none⟩) hg x8).setCell (p:=⟨g,9,none⟩) hg x9).setCell (p:=⟨g,10,none⟩) hg x10)
theorem pI (w:World) (g:Nat) (x0 x1 x2 x3 x4 x5 x6 x7 x8 x9 x10:Value):w.grownBy (((((((((((w.setCell ⟨g,0,none⟩ x0).setCell ⟨g,1,none⟩ x1).setCell ⟨g,2,none⟩ x2).setCell ⟨g,3,none⟩ x3).setCell ⟨g,4,none⟩ x4).setCell ⟨g,5,none⟩ x5).setCell ⟨g,6,none⟩ x6).setCell ⟨g,7,none⟩ x7).setCell ⟨g,8,none⟩ x8).setCell ⟨g,9,none⟩ x9).setCell ⟨g,10,none⟩ x10) (some g):=
 (ak (ak (ak (ak (ak (ak (ak (ak (ak (ak (ak (au w (some g)) 0 x0) 1 x1) 2 x2) 3 x3) 4 x4) 5 x5) 6 x6) 7 x7) 8 x8) 9 x9) 10 x10)
theorem pJ (base:Nat) (w:World):w.ownsRow base 153 6 (.slice none 0 0) 0 []:=⟨rfl,.inl ⟨rfl,rfl⟩⟩
theorem rA (a:Option Addr) (len cap:Nat) (mode:Int) (sum mxr:Bool) (satp:Int) (v:Value) (k:KM) (kind va pick:Int) (w:World) (h:KAt w v k)
 (hbad:bf k=false∨kind<0∨2<kind∨mode<0∨2<mode∨pick<0∨255<pick):
 Calls Tryz.prog 118 #[.slice a len cap,dK mode sum mxr satp,v,.int .i64 kind,.int .u64 va,.int .i64 pick] w fun e w'=>(∃x,e=.returned x∧TransOwn w.heap.size w' x ((63,0),k0M))∧Below w.heap.size w w':=by
 have HK:=hid fun u (hu:Below w.heap.size w u)=>dB v k u (h.keep hu);obtain ⟨a1,c1,a2,c2,a3,c3,rfl,_⟩:=h;obtain ⟨q,hq⟩:∃q,bf k=q:=⟨_,rfl⟩;rw [hq] at hbad HK;clear hq;have n1:Below w.heap.size w (((w.alloc (Obj.cells #[.int .i64 mode,.bool sum,.bool mxr,.int .u64 satp] 205)).alloc (Obj.cells #[.int .i64 k.i.sets,.int .i64 k.i.ways,.slice a1 k.i.es.length c1,.int .i64 k.d.sets,.int .i64 k.d.ways,.slice a2 k.d.es.length c2,.int .i64 k.p.sets,.int .i64 k.p.ways,.slice a3 k.p.es.length c3] 37)).alloc (Obj.cells #[.int .i64 0,.int .u64 0,.int .i64 0,.int .i64 0,.slice none 0 0,.int .i64 0,.int .i64 0,.slice none 0 0,.int .i64 0,.int .i64 0,.slice none 0 0] 208)):=(((Below.refl w.heap.size w).alloc nle _).alloc (by simp) _).alloc (by simp;omega) _;have H1:Hid ((((w.alloc (Obj.cells #[.int .i64 mode,.bool sum,.bool mxr,.int .u64 satp] 205)).alloc (Obj.cells #[.int .i64 k.i.sets,.int .i64 k.i.ways,.slice a1 k.i.es.length c1,.int .i64 k.d.sets,.int .i64 k.d.ways,.slice a2 k.d.es.length c2,.int .i64 k.p.sets,.int .i64 k.p.ways,.slice a3 k.p.es.length c3] 37)).alloc (Obj.cells #[.int .i64 0,.int .u64 0,.int .i64 0,.int .i64 0,.slice none 0 0,.int .i64 0,.int .i64 0,.slice none 0 0,.int .i64 0,.int .i64 0,.slice none 0 0] 208)).heap[w.heap.size]?=some (.cells #[.int .i64 mode,.bool sum,.bool mxr,.int .u64 satp] 205 (0,0))):=by
  show _=_;rw [heap_alloc_old _ _ (by simp;omega),heap_alloc_old _ _ (by simp)];exact heap_alloc_new w _
 have H2:Hid ((((w.alloc (Obj.cells #[.int .i64 mode,.bool sum,.bool mxr,.int .u64 satp] 205)).alloc (Obj.cells #[.int .i64 k.i.sets,.int .i64 k.i.ways,.slice a1 k.i.es.length c1,.int .i64 k.d.sets,.int .i64 k.d.ways,.slice a2 k.d.es.length c2,.int .i64 k.p.sets,.int .i64 k.p.ways,.slice a3 k.p.es.length c3] 37)).alloc (Obj.cells #[.int .i64 0,.int .u64 0,.int .i64 0,.int .i64 0,.slice none 0 0,.int .i64 0,.int .i64 0,.slice none 0 0,.int .i64 0,.int .i64 0,.slice none 0 0] 208)).heap[w.heap.size+1]?=some (.cells #[.int .i64 k.i.sets,.int .i64 k.i.ways,.slice a1 k.i.es.length c1,.int .i64 k.d.sets,.int .i64 k.d.ways,.slice a2 k.d.es.length c2,.int .i64 k.p.sets,.int .i64 k.p.ways,.slice a3 k.p.es.length c3] 37 (0,0))):=by
  show _=_;rw [heap_alloc_old _ _ (by simp)];have:=heap_alloc_new (w.alloc (Obj.cells #[.int .i64 mode,.bool sum,.bool mxr,.int .u64 satp] 205)) (Obj.cells #[.int .i64 k.i.sets,.int .i64 k.i.ways,.slice a1 k.i.es.length c1,.int .i64 k.d.sets,.int .i64 k.d.ways,.slice a2 k.d.es.length c2,.int .i64 k.p.sets,.int .i64 k.p.ways,.slice a3 k.p.es.length c3] 37);simp only [World.size_alloc] at this;exact this
 have H3:Hid ((((w.alloc (Obj.cells #[.int .i64 mode,.bool sum,.bool mxr,.int .u64 satp] 205)).alloc (Obj.cells #[.int .i64 k.i.sets,.int .i64 k.i.ways,.slice a1 k.i.es.length c1,.int .i64 k.d.sets,.int .i64 k.d.ways,.slice a2 k.d.es.length c2,.int .i64 k.p.sets,.int .i64 k.p.ways,.slice a3 k.p.es.length c3] 37)).alloc (Obj.cells #[.int .i64 0,.int .u64 0,.int .i64 0,.int .i64 0,.slice none 0 0,.int .i64 0,.int .i64 0,.slice none 0 0,.int .i64 0,.int .i64 0,.slice none 0 0] 208)).heap[w.heap.size+1+1]?=some (.cells #[.int .i64 0,.int .u64 0,.int .i64 0,.int .i64 0,.slice none 0 0,.int .i64 0,.int .i64 0,.slice none 0 0,.int .i64 0,.int .i64 0,.slice none 0 0] 208 (0,0))):=by
  have:=heap_alloc_new ((w.alloc (Obj.cells #[.int .i64 mode,.bool sum,.bool mxr,.int .u64 satp] 205)).alloc (Obj.cells #[.int .i64 k.i.sets,.int .i64 k.i.ways,.slice a1 k.i.es.length c1,.int .i64 k.d.sets,.int .i64 k.d.ways,.slice a2 k.d.es.length c2,.int .i64 k.p.sets,.int .i64 k.p.ways,.slice a3 k.p.es.length c3] 37)) (Obj.cells #[.int .i64 0,.int .u64 0,.int .i64 0,.int .i64 0,.slice none 0 0,.int .i64 0,.int .i64 0,.slice none 0 0,.int .i64 0,.int .i64 0,.slice none 0 0] 208);simp only [World.size_alloc] at this;exact this
 have l1:w.heap.size+1+1<(((w.alloc (Obj.cells #[.int .i64 mode,.bool sum,.bool mxr,.int .u64 satp] 205)).alloc (Obj.cells #[.int .i64 k.i.sets,.int .i64 k.i.ways,.slice a1 k.i.es.length c1,.int .i64 k.d.sets,.int .i64 k.d.ways,.slice a2 k.d.es.length c2,.int .i64 k.p.sets,.int .i64 k.p.ways,.slice a3 k.p.es.length c3] 37)).alloc (Obj.cells #[.int .i64 0,.int .u64 0,.int .i64 0,.int .i64 0,.slice none 0 0,.int .i64 0,.int .i64 0,.slice none 0 0,.int .i64 0,.int .i64 0,.slice none 0 0] 208)).heap.size:=by simp
 unfold dK;rcases (show q=false∨(q=true∧kind<0)∨(q=true∧0<=kind∧2<kind)∨(q=true∧0<=kind∧kind<=2∧mode<0)∨(q=true∧0<=kind∧kind<=2∧0<=mode∧2<mode)∨(q=true∧0<=kind∧kind<=2∧0<=mode∧mode<=2∧pick<0)∨(q=true∧0<=kind∧kind<=2∧0<=mode∧mode<=2∧0<=pick∧255<pick) by cases q <;> simp at hbad |- <;> omega) with rfl | ⟨rfl,h0⟩ | ⟨rfl,h0,h1⟩ | ⟨rfl,h0,h1,h2⟩ | ⟨rfl,h0,h1,h2,h3⟩ | ⟨rfl,h0,h1,h2,h3,h4⟩ | ⟨rfl,h0,h1,h2,h3,h4,h5⟩;all_goals
  clear hbad;go_enter Tryz.func118,Tryz.ntmps118;go_wp2_with fail;generalize (((w.alloc (Obj.cells #[.int .i64 mode,.bool sum,.bool mxr,.int .u64 satp] 205)).alloc (Obj.cells #[.int .i64 k.i.sets,.int .i64 k.i.ways,.slice a1 k.i.es.length c1,.int .i64 k.d.sets,.int .i64 k.d.ways,.slice a2 k.d.es.length c2,.int .i64 k.p.sets,.int .i64 k.p.ways,.slice a3 k.p.es.length c3] 37)).alloc (Obj.cells #[.int .i64 0,.int .u64 0,.int .i64 0,.int .i64 0,.slice none 0 0,.int .i64 0,.int .i64 0,.slice none 0 0,.int .i64 0,.int .i64 0,.slice none 0 0] 208))=v1 at n1 H1 H2 H3 l1 |-;refine (HK.out v1 n1).mono ?_;rintro e v2 ⟨rfl,n2⟩;have G3:Hid _:=ae H3.out n2 l1;have l2:=n2.size;obtain ⟨d0,d1,d2,d3⟩:=av (ae H1.out n2 (by omega));obtain ⟨j0,j1,j2,j3,j4,j5,j6,j7,j8,j9,j10⟩:=cD G3.out;have ff:=dt G3.out;have f0:=ff 0;have f1:=ff 1;have f2:=ff 2;have f3:=ff 3;have f4:=ff 4;have f5:=ff 5;have f6:=ff 6;have f7:=ff 7;have f8:=ff 8;have f9:=ff 9;have f10:=ff 10;clear ff;go_wp2_with fail;refine bodyPost_ret (v:=.agg #[.int .i64 63,.int .u64 0,.int .i64 0,.int .i64 0,.slice none 0 0,.int .i64 0,.int .i64 0,.slice none 0 0,.int .i64 0,.int .i64 0,.slice none 0 0]) (by simp [results,Tryz.results118,go_sem,j0,j1,j2,j3,j4,j5,j6,j7,j8,j9,j10]) rfl
   ⟨⟨_,rfl,.slice none 0 0,.slice none 0 0,.slice none 0 0,rfl,pJ _ _,pJ _ _,pJ _ _⟩,pH (bst n1 n2) (by omega) _ _ _ _ _ _ _ _ _ _ _⟩
end
section
attribute [local go_sem ↓] Go.wp_at_zero Go.wp_at_succ
theorem aN {e:TypeId} {size:Nat} {w w':World} {base n g cap r:Nat} {cs:List Value} (h:w.ownsRow base e size (.slice (some ⟨g,0,none⟩) n cap) n cs) (hg:w.grownBy w' (some r)) (hr:g≠r):w'.ownsRow base e size (.slice (some ⟨g,0,none⟩) n cap) n cs:=by
 refine h.kept hg (.inr ?_);simp [Value.ownBlock];omega
theorem rD (a:Option Addr) (len cap:Nat) (mode:Int) (sum mxr:Bool) (satp:Int) (v:Value) (k:KM) (kind va pick:Int) (w:World) (h:KAt w v k)
 (hgood:bf k=true) (h0:0<=kind) (h1:kind<=2) (h2:0<=mode) (h3:mode<=2) (h4:0<=pick) (h5:pick<=255) (hs0:0<=satp) (hs1:satp<=18446744073709551615) (hon:onM mode satp=false):
 Calls Tryz.prog 118 #[.slice a len cap,dK mode sum mxr satp,v,.int .i64 kind,.int .u64 va,.int .i64 pick] w fun e w'=>(∃x,e=.returned x∧TransOwn w.heap.size w' x ((0,va),k))∧Below w.heap.size w w':=by
 have HK:=hid fun u (hu:Below w.heap.size w u)=>dB v k u (h.keep hu);have HL:=hid fun u (hu:Below w.heap.size w u)=>fQ v k u (h.keep hu);have HO:Hid (∀u,Calls Tryz.prog 146 #[dK mode sum mxr satp] u fun e w'=>e=.returned (.bool false)∧Below u.heap.size u w'):=fun u=>by have:=kH mode sum mxr satp u hs0 hs1;rw [hon] at this;exact this
 obtain ⟨a1,c1,a2,c2,a3,c3,rfl,_⟩:=h;rw [hgood] at HK;clear hgood hon;have n1:Below w.heap.size w (((w.alloc (Obj.cells #[.int .i64 mode,.bool sum,.bool mxr,.int .u64 satp] 205)).alloc (Obj.cells #[.int .i64 k.i.sets,.int .i64 k.i.ways,.slice a1 k.i.es.length c1,.int .i64 k.d.sets,.int .i64 k.d.ways,.slice a2 k.d.es.length c2,.int .i64 k.p.sets,.int .i64 k.p.ways,.slice a3 k.p.es.length c3] 37)).alloc (Obj.cells #[.int .i64 0,.int .u64 0,.int .i64 0,.int .i64 0,.slice none 0 0,.int .i64 0,.int .i64 0,.slice none 0 0,.int .i64 0,.int .i64 0,.slice none 0 0] 208)):=(((Below.refl w.heap.size w).alloc nle _).alloc (by simp) _).alloc (by simp;omega) _;have H1:Hid ((((w.alloc (Obj.cells #[.int .i64 mode,.bool sum,.bool mxr,.int .u64 satp] 205)).alloc (Obj.cells #[.int .i64 k.i.sets,.int .i64 k.i.ways,.slice a1 k.i.es.length c1,.int .i64 k.d.sets,.int .i64 k.d.ways,.slice a2 k.d.es.length c2,.int .i64 k.p.sets,.int .i64 k.p.ways,.slice a3 k.p.es.length c3] 37)).alloc (Obj.cells #[.int .i64 0,.int .u64 0,.int .i64 0,.int .i64 0,.slice none 0 0,.int .i64 0,.int .i64 0,.slice none 0 0,.int .i64 0,.int .i64 0,.slice none 0 0] 208)).heap[w.heap.size]?=some (.cells #[.int .i64 mode,.bool sum,.bool mxr,.int .u64 satp] 205 (0,0))):=by
  show _=_;rw [heap_alloc_old _ _ (by simp;omega),heap_alloc_old _ _ (by simp)];exact heap_alloc_new w _
 have H2:Hid ((((w.alloc (Obj.cells #[.int .i64 mode,.bool sum,.bool mxr,.int .u64 satp] 205)).alloc (Obj.cells #[.int .i64 k.i.sets,.int .i64 k.i.ways,.slice a1 k.i.es.length c1,.int .i64 k.d.sets,.int .i64 k.d.ways,.slice a2 k.d.es.length c2,.int .i64 k.p.sets,.int .i64 k.p.ways,.slice a3 k.p.es.length c3] 37)).alloc (Obj.cells #[.int .i64 0,.int .u64 0,.int .i64 0,.int .i64 0,.slice none 0 0,.int .i64 0,.int .i64 0,.slice none 0 0,.int .i64 0,.int .i64 0,.slice none 0 0] 208)).heap[w.heap.size+1]?=some (.cells #[.int .i64 k.i.sets,.int .i64 k.i.ways,.slice a1 k.i.es.length c1,.int .i64 k.d.sets,.int .i64 k.d.ways,.slice a2 k.d.es.length c2,.int .i64 k.p.sets,.int .i64 k.p.ways,.slice a3 k.p.es.length c3] 37 (0,0))):=by
  show _=_;rw [heap_alloc_old _ _ (by simp)];have:=heap_alloc_new (w.alloc (Obj.cells #[.int .i64 mode,.bool sum,.bool mxr,.int .u64 satp] 205)) (Obj.cells #[.int .i64 k.i.sets,.int .i64 k.i.ways,.slice a1 k.i.es.length c1,.int .i64 k.d.sets,.int .i64 k.d.ways,.slice a2 k.d.es.length c2,.int .i64 k.p.sets,.int .i64 k.p.ways,.slice a3 k.p.es.length c3] 37);simp only [World.size_alloc] at this;exact this
 have H3:Hid ((((w.alloc (Obj.cells #[.int .i64 mode,.bool sum,.bool mxr,.int .u64 satp] 205)).alloc (Obj.cells #[.int .i64 k.i.sets,.int .i64 k.i.ways,.slice a1 k.i.es.length c1,.int .i64 k.d.sets,.int .i64 k.d.ways,.slice a2 k.d.es.length c2,.int .i64 k.p.sets,.int .i64 k.p.ways,.slice a3 k.p.es.length c3] 37)).alloc (Obj.cells #[.int .i64 0,.int .u64 0,.int .i64 0,.int .i64 0,.slice none 0 0,.int .i64 0,.int .i64 0,.slice none 0 0,.int .i64 0,.int .i64 0,.slice none 0 0] 208)).heap[w.heap.size+1+1]?=some (.cells #[.int .i64 0,.int .u64 0,.int .i64 0,.int .i64 0,.slice none 0 0,.int .i64 0,.int .i64 0,.slice none 0 0,.int .i64 0,.int .i64 0,.slice none 0 0] 208 (0,0))):=by
  have:=heap_alloc_new ((w.alloc (Obj.cells #[.int .i64 mode,.bool sum,.bool mxr,.int .u64 satp] 205)).alloc (Obj.cells #[.int .i64 k.i.sets,.int .i64 k.i.ways,.slice a1 k.i.es.length c1,.int .i64 k.d.sets,.int .i64 k.d.ways,.slice a2 k.d.es.length c2,.int .i64 k.p.sets,.int .i64 k.p.ways,.slice a3 k.p.es.length c3] 37)) (Obj.cells #[.int .i64 0,.int .u64 0,.int .i64 0,.int .i64 0,.slice none 0 0,.int .i64 0,.int .i64 0,.slice none 0 0,.int .i64 0,.int .i64 0,.slice none 0 0] 208);simp only [World.size_alloc] at this;exact this
 have l1:w.heap.size+1+1<(((w.alloc (Obj.cells #[.int .i64 mode,.bool sum,.bool mxr,.int .u64 satp] 205)).alloc (Obj.cells #[.int .i64 k.i.sets,.int .i64 k.i.ways,.slice a1 k.i.es.length c1,.int .i64 k.d.sets,.int .i64 k.d.ways,.slice a2 k.d.es.length c2,.int .i64 k.p.sets,.int .i64 k.p.ways,.slice a3 k.p.es.length c3] 37)).alloc (Obj.cells #[.int .i64 0,.int .u64 0,.int .i64 0,.int .i64 0,.slice none 0 0,.int .i64 0,.int .i64 0,.slice none 0 0,.int .i64 0,.int .i64 0,.slice none 0 0] 208)).heap.size:=by simp
 unfold dK at HO |-;go_enter Tryz.func118,Tryz.ntmps118;go_upto_region 1 with fail;generalize (((w.alloc (Obj.cells #[.int .i64 mode,.bool sum,.bool mxr,.int .u64 satp] 205)).alloc (Obj.cells #[.int .i64 k.i.sets,.int .i64 k.i.ways,.slice a1 k.i.es.length c1,.int .i64 k.d.sets,.int .i64 k.d.ways,.slice a2 k.d.es.length c2,.int .i64 k.p.sets,.int .i64 k.p.ways,.slice a3 k.p.es.length c3] 37)).alloc (Obj.cells #[.int .i64 0,.int .u64 0,.int .i64 0,.int .i64 0,.slice none 0 0,.int .i64 0,.int .i64 0,.slice none 0 0,.int .i64 0,.int .i64 0,.slice none 0 0] 208))=v1 at n1 H1 H2 H3 l1 |-;obtain ⟨⟨d0,d1,d2,d3⟩,_⟩:=av H1.out;obtain ⟨b0,b1,b2,b3,b4,b5,b6,b7,b8⟩:=aP H2.out;go_cut [49] (fun s49 wx=>s49=.bool false∧Below v1.heap.size v1 wx)
 case first=>
  go_wp2_with fail;refine (HK.out v1 n1).mono ?_;rintro e v2 ⟨rfl,n2⟩;obtain ⟨⟨d0,d1,d2,d3⟩,_⟩:=av (ab H1 n2).out;go_wp2_with fail;go_meet;refine ⟨?_,n2⟩;simp;omega
 obtain ⟨rfl,n2⟩:=hcut;generalize wc=v2 at n2 |-;have l2:=n2.size;have n12:=bst n1 n2;have K1:=ab H1 n2;have K2:=ab H2 n2;have K3:=ab H3 n2;clear d0 d1 d2 d3 b0 b1 b2 b3 b4 b5 b6 b7 b8;obtain ⟨⟨d0,d1,d2,d3⟩,_⟩:=av K1.out;obtain ⟨b0,b1,b2,b3,b4,b5,b6,b7,b8⟩:=aP K2.out;have s0:w.heap.size+1+1<v2.heap.size:=by omega
 clear n1 n2 H1 H2 H3;go_wp2_with fail;refine (HL.out v2 n12).mono ?_;rintro e v3 ⟨⟨x,rfl,g1,e1,g2,e2,g3,e3,rfl,o1,o2,o3⟩,n3⟩;have l3:=n3.size;have n13:=bst n12 n3;have P1:=ab K1 n3;have P2:=ab K2 n3;have P3:=ab K3 n3;have O1:Hid _:=o1;have O2:Hid _:=o2;have O3:Hid _:=o3;clear o1 o2 o3 n12 n3 K1 K2 K3 d0 d1 d2 d3 b0 b1 b2 b3 b4 b5 b6 b7 b8;obtain ⟨⟨d0,d1,d2,d3⟩,_⟩:=av P1.out;have t0:w.heap.size<v3.heap.size:=by omega
 have t1:w.heap.size+1<v3.heap.size:=by omega
 have t2:w.heap.size+1+1<v3.heap.size:=by omega
 go_wp2_with fail;have n4:=(Below.refl v3.heap.size v3).alloc nle (Obj.cells #[.int .i64 0,.int .u64 0,.int .i64 k.i.sets,.int .i64 k.i.ways,.slice (some ⟨g1,0,none⟩) k.i.es.length e1,.int .i64 k.d.sets,.int .i64 k.d.ways,.slice (some ⟨g2,0,none⟩) k.d.es.length e2,.int .i64 k.p.sets,.int .i64 k.p.ways,.slice (some ⟨g3,0,none⟩) k.p.es.length e3] 208);have H4:Hid ((v3.alloc (Obj.cells #[.int .i64 0,.int .u64 0,.int .i64 k.i.sets,.int .i64 k.i.ways,.slice (some ⟨g1,0,none⟩) k.i.es.length e1,.int .i64 k.d.sets,.int .i64 k.d.ways,.slice (some ⟨g2,0,none⟩) k.d.es.length e2,.int .i64 k.p.sets,.int .i64 k.p.ways,.slice (some ⟨g3,0,none⟩) k.p.es.length e3] 208)).heap[v3.heap.size]?=some (.cells #[.int .i64 0,.int .u64 0,.int .i64 k.i.sets,.int .i64 k.i.ways,.slice (some ⟨g1,0,none⟩) k.i.es.length e1,.int .i64 k.d.sets,.int .i64 k.d.ways,.slice (some ⟨g2,0,none⟩) k.d.es.length e2,.int .i64 k.p.sets,.int .i64 k.p.ways,.slice (some ⟨g3,0,none⟩) k.p.es.length e3] 208 (0,0))):=heap_alloc_new v3 _;have l4:v3.heap.size<(v3.alloc (Obj.cells #[.int .i64 0,.int .u64 0,.int .i64 k.i.sets,.int .i64 k.i.ways,.slice (some ⟨g1,0,none⟩) k.i.es.length e1,.int .i64 k.d.sets,.int .i64 k.d.ways,.slice (some ⟨g2,0,none⟩) k.d.es.length e2,.int .i64 k.p.sets,.int .i64 k.p.ways,.slice (some ⟨g3,0,none⟩) k.p.es.length e3] 208)).heap.size:=by simp
 generalize v3.alloc (Obj.cells #[.int .i64 0,.int .u64 0,.int .i64 k.i.sets,.int .i64 k.i.ways,.slice (some ⟨g1,0,none⟩) k.i.es.length e1,.int .i64 k.d.sets,.int .i64 k.d.ways,.slice (some ⟨g2,0,none⟩) k.d.es.length e2,.int .i64 k.p.sets,.int .i64 k.p.ways,.slice (some ⟨g3,0,none⟩) k.p.es.length e3] 208)=v4 at n4 H4 l4 |-;refine (HO.out v4).mono ?_;rintro e v5 ⟨rfl,n5⟩;have l5:=n5.size;have n45:=bst n4 n5;have n15:=bst n13 n45;have Q3:=ab P3 n45;have Q4:=ab H4 n5;have U1:=ag O1.out n45;have U2:=ag O2.out n45;have U3:=ag O3.out n45;have a1':=bC O1.out;have a2':=bC O2.out;have a3':=bC O3.out;have V1:Hid _:=U1;have V2:Hid _:=U2;have V3:Hid _:=U3;have A1:Hid _:=a1';have A2:Hid _:=a2';have A3:Hid _:=a3';clear U1 U2 U3 a1' a2' a3' O1 O2 O3 n4 n5 P1 P2 P3 H4;obtain ⟨j0,j1,j2,j3,j4,j5,j6,j7,j8,j9,j10⟩:=cD Q3.out;obtain ⟨m0,m1,m2,m3,m4,m5,m6,m7,m8,m9,m10⟩:=cD Q4.out;have ff:=dt Q3.out;have f0:=ff 0;have f1:=ff 1;have f2:=ff 2;have f3:=ff 3;have f4:=ff 4;have f5:=ff 5;have f6:=ff 6;have f7:=ff 7;have f8:=ff 8;have f9:=ff 9;have f10:=ff 10;have gg:=dt Q4.out;have g0':=gg 0;have g1':=gg 1;clear ff gg;have ne1:v3.heap.size≠w.heap.size+1+1:=by omega
 have ne2:w.heap.size+1+1≠v3.heap.size:=by omega
 go_wp2_with fail;obtain ⟨_,z1,z1'⟩:=A1.out;obtain ⟨_,z2,z2'⟩:=A2.out;obtain ⟨_,z3,z3'⟩:=A3.out;have gO:=ak (au v5 (some v3.heap.size)) 1 (Value.int .u64 va);refine bodyPost_ret (v:=.agg #[.int .i64 0,.int .u64 va,.int .i64 k.i.sets,.int .i64 k.i.ways,.slice (some ⟨g1,0,none⟩) k.i.es.length e1,.int .i64 k.d.sets,.int .i64 k.d.ways,.slice (some ⟨g2,0,none⟩) k.d.es.length e2,.int .i64 k.p.sets,.int .i64 k.p.ways,.slice (some ⟨g3,0,none⟩) k.p.es.length e3]) (by simp [results,Tryz.results118,go_sem,j0,j1,j2,j3,j4,j5,j6,j7,j8,j9,j10]) rfl
  ⟨⟨_,rfl,_,_,_,rfl,aK (aN (aN V1.out gO (by omega)) (pI _ (w.heap.size+1+1) _ _ _ _ _ _ _ _ _ _ _) (by omega)) (by omega),aK (aN (aN V2.out gO (by omega)) (pI _ (w.heap.size+1+1) _ _ _ _ _ _ _ _ _ _ _) (by omega)) (by omega),aK (aN (aN V3.out gO (by omega)) (pI _ (w.heap.size+1+1) _ _ _ _ _ _ _ _ _ _ _) (by omega)) (by omega)⟩,pH (n15.setCell (p:=⟨v3.heap.size,1,none⟩) (by simp only;omega) _) (by omega) _ _ _ _ _ _ _ _ _ _ _⟩
end
def dI (s t:Value):Prop:=∀g,s.ownBlock=some g->t.ownBlock≠some g
def zC (base:Nat) (w:World) (v:Value) (k:KM):Prop:=
 ∃g1 c1 g2 c2 g3 c3,v=.agg #[.int .i64 k.i.sets,.int .i64 k.i.ways,.slice (some ⟨g1,0,none⟩) k.i.es.length c1,.int .i64 k.d.sets,.int .i64 k.d.ways,.slice (some ⟨g2,0,none⟩) k.d.es.length c2,.int .i64 k.p.sets,.int .i64 k.p.ways,.slice (some ⟨g3,0,none⟩) k.p.es.length c3]∧
  w.ownsRow base 153 6 (.slice (some ⟨g1,0,none⟩) k.i.es.length c1) k.i.es.length (az k.i.es)∧w.ownsRow base 153 6 (.slice (some ⟨g2,0,none⟩) k.d.es.length c2) k.d.es.length (az k.d.es)∧w.ownsRow base 153 6 (.slice (some ⟨g3,0,none⟩) k.p.es.length c3) k.p.es.length (az k.p.es)∧
  g1≠g2∧g1≠g3∧g2≠g3
def TransSep (base:Nat) (w:World) (v:Value) (r:(Int × Int) × KM):Prop:=
 ∃s1 s2 s3,v=.agg #[.int .i64 r.1.1,.int .u64 r.1.2,.int .i64 r.2.i.sets,.int .i64 r.2.i.ways,s1,.int .i64 r.2.d.sets,.int .i64 r.2.d.ways,s2,.int .i64 r.2.p.sets,.int .i64 r.2.p.ways,s3]∧
  w.ownsRow base 153 6 s1 r.2.i.es.length (az r.2.i.es)∧w.ownsRow base 153 6 s2 r.2.d.es.length (az r.2.d.es)∧w.ownsRow base 153 6 s3 r.2.p.es.length (az r.2.p.es)∧
  dI s1 s2∧dI s1 s3∧dI s2 s3
theorem TransSep.own {base:Nat} {w:World} {v:Value} {r:(Int × Int) × KM} (h:TransSep base w v r):TransOwn base w v r:=by
 obtain ⟨s1,s2,s3,h0,h1,h2,h3,_⟩:=h;exact ⟨s1,s2,s3,h0,h1,h2,h3⟩
theorem iQ {g1 g2 n1 n2 c1 c2:Nat} (h:g1≠g2):dI (.slice (some ⟨g1,0,none⟩) n1 c1) (.slice (some ⟨g2,0,none⟩) n2 c2):=fun g h1 h2=>by
 simp [Value.ownBlock] at h1 h2;omega
end Go.Proofs.YtgnnmgfgfihljaaGreat
