import Derived.Test.YtaoaifmkhbgaiaaGreatPk13
import Derived.Test.YtaoaifmkhbgaiaaGreatPk05
import Derived.Deep.MidRow
import Derived.OrdersHeld
import Derived.Deep.RegionHeld3
import Derived.Test.YtaoaifmkhbgaiaaGreatPk11
import Derived.Test.YtaoaifmkhbgaiaaGreatPk06
import Derived.Test.YtaoaifmkhbgaiaaGreatPk04
namespace Go.Proofs.YtaoaifmkhbgaiaaGreat
open Go.RowKit
set_option linter.unusedVariables false
attribute [local go_sem ↓] Go.wp_at_zero Go.wp_at_succ
theorem cT {v:World} {p:Nat} {T:TypeId} {a b c d e f g h i:Value} (hh:v.heap[p]?=some (.cells #[a,b,c,d,e,f,g,h,i] T (0,0))):
 v.cell? ⟨p,0,none⟩=some a∧v.cell? ⟨p,1,none⟩=some b∧v.cell? ⟨p,2,none⟩=some c∧v.cell? ⟨p,3,none⟩=some d∧v.cell? ⟨p,4,none⟩=some e∧v.cell? ⟨p,5,none⟩=some f∧v.cell? ⟨p,6,none⟩=some g∧v.cell? ⟨p,7,none⟩=some h∧v.cell? ⟨p,8,none⟩=some i:=by
 simp [World.cell?,hh]
theorem Bm {B:Nat} {a w:World} {g:Nat} (h:Below B a w) (hg:B≤g) (x y z u v t:Value):Below B a ((((((w.setCell ⟨g,0,none⟩ x).setCell ⟨g,1,none⟩ y).setCell ⟨g,2,none⟩ z).setCell ⟨g,3,none⟩ u).setCell ⟨g,4,none⟩ v).setCell ⟨g,5,none⟩ t):=
 (((eg h hg x y z).setCell (p:=⟨g,3,none⟩) hg u).setCell (p:=⟨g,4,none⟩) hg v).setCell (p:=⟨g,5,none⟩) hg t
theorem An {B:Nat} {a w:World} {g:Nat} (h:Below B a w) (hg:B≤g) (x y z u v t p q r:Value):Below B a (((((((((w.setCell ⟨g,0,none⟩ x).setCell ⟨g,1,none⟩ y).setCell ⟨g,2,none⟩ z).setCell ⟨g,3,none⟩ u).setCell ⟨g,4,none⟩ v).setCell ⟨g,5,none⟩ t).setCell ⟨g,6,none⟩ p).setCell ⟨g,7,none⟩ q).setCell ⟨g,8,none⟩ r):=
 (((Bm h hg x y z u v t).setCell (p:=⟨g,6,none⟩) hg p).setCell (p:=⟨g,7,none⟩) hg q).setCell (p:=⟨g,8,none⟩) hg r
theorem gb9 (w:World) (g:Nat) (x y z u v t p q r:Value):w.grownBy (((((((((w.setCell ⟨g,0,none⟩ x).setCell ⟨g,1,none⟩ y).setCell ⟨g,2,none⟩ z).setCell ⟨g,3,none⟩ u).setCell ⟨g,4,none⟩ v).setCell ⟨g,5,none⟩ t).setCell ⟨g,6,none⟩ p).setCell ⟨g,7,none⟩ q).setCell ⟨g,8,none⟩ r) (some g):=
 ax (ax (ax (ax (ax (ax (ax (ax (ax (aE w (some g)) 0 x) 1 y) 2 z) 3 u) 4 v) 5 t) 6 p) 7 q) 8 r
theorem pV {v:World} {p:Nat} {T:TypeId} {cs:Array Value} (hh:v.heap[p]?=some (.cells cs T (0,0))) (i:Nat):v.frozen? ⟨p,i,none⟩=false:=by
 simp [World.frozen?,hh]
def KAt (w:World) (v:Value) (k:KM):Prop:=
 ∃a1 c1 a2 c2 a3 c3,v=.agg #[.int .i64 k.i.sets,.int .i64 k.i.ways,.slice a1 k.i.es.length c1,.int .i64 k.d.sets,.int .i64 k.d.ways,.slice a2 k.d.es.length c2,.int .i64 k.p.sets,.int .i64 k.p.ways,.slice a3 k.p.es.length c3]∧
  TlbAt w (.agg #[.int .i64 k.i.sets,.int .i64 k.i.ways,.slice a1 k.i.es.length c1]) k.i∧TlbAt w (.agg #[.int .i64 k.d.sets,.int .i64 k.d.ways,.slice a2 k.d.es.length c2]) k.d∧TlbAt w (.agg #[.int .i64 k.p.sets,.int .i64 k.p.ways,.slice a3 k.p.es.length c3]) k.p
theorem KAt.keep {w w':World} {v:Value} {k:KM} (h:KAt w v k) (hb:Below w.heap.size w w'):KAt w' v k:=by
 obtain ⟨a1,c1,a2,c2,a3,c3,rfl,h1,h2,h3⟩:=h;exact ⟨a1,c1,a2,c2,a3,c3,rfl,h1.keep hb,h2.keep hb,h3.keep hb⟩
set_option maxHeartbeats 800000 in
theorem eZ (v:Value) (k:KM) (w:World) (h:KAt w v k):
 Calls Tryz.prog 38 #[v] w fun e w'=>e=.returned (.bool (aV k))∧Below w.heap.size w w':=by
 obtain ⟨a1,c1,a2,c2,a3,c3,rfl,t1,t2,t3⟩:=h;obtain ⟨q1,hq1⟩:∃q,aG k.i false=q:=⟨_,rfl⟩;obtain ⟨q2,hq2⟩:∃q,aG k.d false=q:=⟨_,rfl⟩;obtain ⟨q3,hq3⟩:∃q,aG k.p true=q:=⟨_,rfl⟩;unfold aV;rw [hq1,hq2,hq3];have n1:=(Below.refl w.heap.size w).alloc (Nat.le_refl _) (Obj.cells #[.int .i64 k.i.sets,.int .i64 k.i.ways,.slice a1 k.i.es.length c1,.int .i64 k.d.sets,.int .i64 k.d.ways,.slice a2 k.d.es.length c2,.int .i64 k.p.sets,.int .i64 k.p.ways,.slice a3 k.p.es.length c3] 30);have HV1:Hid (∀v,Below w.heap.size w v→Calls Tryz.prog 17 #[.agg #[.int .i64 k.i.sets,.int .i64 k.i.ways,.slice a1 k.i.es.length c1],.bool false] v fun e w'=>e=.returned (.bool q1)∧Below v.heap.size v w'):=fun v hv=>by
  have:=el _ _ false v (t1.keep hv);rw [hq1] at this;exact this
 have HV2:Hid (∀v,Below w.heap.size w v→Calls Tryz.prog 17 #[.agg #[.int .i64 k.d.sets,.int .i64 k.d.ways,.slice a2 k.d.es.length c2],.bool false] v fun e w'=>e=.returned (.bool q2)∧Below v.heap.size v w'):=fun v hv=>by
  have:=el _ _ false v (t2.keep hv);rw [hq2] at this;exact this
 have HV3:Hid (∀v,Below w.heap.size w v→Calls Tryz.prog 17 #[.agg #[.int .i64 k.p.sets,.int .i64 k.p.ways,.slice a3 k.p.es.length c3],.bool true] v fun e w'=>e=.returned (.bool q3)∧Below v.heap.size v w'):=fun v hv=>by
  have:=el _ _ true v (t3.keep hv);rw [hq3] at this;exact this
 have H1:Hid (∀v,Below (w.heap.size+1) (w.alloc (Obj.cells #[.int .i64 k.i.sets,.int .i64 k.i.ways,.slice a1 k.i.es.length c1,.int .i64 k.d.sets,.int .i64 k.d.ways,.slice a2 k.d.es.length c2,.int .i64 k.p.sets,.int .i64 k.p.ways,.slice a3 k.p.es.length c3] 30)) v→v.heap[w.heap.size]?=some (.cells #[.int .i64 k.i.sets,.int .i64 k.i.ways,.slice a1 k.i.es.length c1,.int .i64 k.d.sets,.int .i64 k.d.ways,.slice a2 k.d.es.length c2,.int .i64 k.p.sets,.int .i64 k.p.ways,.slice a3 k.p.es.length c3] 30 (0,0))):=
  fun v hv=>(hv.block w.heap.size (by omega)).trans (heap_alloc_new w _)
 clear t1 t2 t3 hq1 hq2 hq3;generalize k.i.sets=s1 at *;generalize k.i.ways=w1 at *;generalize k.i.es.length=m1 at *;generalize k.d.sets=s2 at *;generalize k.d.ways=w2 at *;generalize k.d.es.length=m2 at *;generalize k.p.sets=s3 at *;generalize k.p.ways=w3 at *;generalize k.p.es.length=m3 at *;cases q1
 ·go_enter Tryz.func38,Tryz.ntmps38;go_wp2_with fail;refine (HV1.out _ n1).mono ?_;rintro e v2 ⟨rfl,n2⟩;have n12:=Below.step n1 n2 (Nat.le_refl _);go_wp2_with fail;go_ret;exact ⟨rfl,n12⟩
 ·go_enter Tryz.func38,Tryz.ntmps38;go_wp2_with fail;refine (HV1.out _ n1).mono ?_;rintro e v2 ⟨rfl,n2⟩;have n12:=Below.step n1 n2 (Nat.le_refl _);have K2:=cT (H1.out v2 (n2.mono (by simp)));obtain ⟨x0,x1,x2,x3,x4,x5,x6,x7,x8⟩:=K2;cases q2
  ·go_wp2_with fail;refine (HV2.out _ n12).mono ?_;rintro e v3 ⟨rfl,n3⟩;have n13:=Below.step n12 n3 (Nat.le_refl _);go_wp2_with fail;go_ret;exact ⟨rfl,n13⟩
  ·go_wp2_with fail;refine (HV2.out _ n12).mono ?_;rintro e v3 ⟨rfl,n3⟩;have n13:=Below.step n12 n3 (Nat.le_refl _);have n23:=Below.step n2 n3 (Nat.le_refl _);clear x0 x1 x2 x3 x4 x5 x6 x7 x8;have K3:=cT (H1.out v3 (n23.mono (by simp)));obtain ⟨x0,x1,x2,x3,x4,x5,x6,x7,x8⟩:=K3;go_wp2_with fail;refine (HV3.out _ n13).mono ?_;rintro e v4 ⟨rfl,n4⟩;have n14:=Below.step n13 n4 (Nat.le_refl _);go_wp2_with fail;go_ret;exact ⟨by simp,n14⟩
set_option maxHeartbeats 800000 in
theorem lV (level va satp pte:Int) (w:World) (hl0:0≤level) (hl2:level≤2) (hv0:0≤va) (hv1:va≤18446744073709551615) (hs0:0≤satp) (hs1:satp≤18446744073709551615) (hp0:0≤pte) (hp1:pte≤18446744073709551615):
 Calls Tryz.prog 47 #[.int .i64 level,.int .u64 va,.int .u64 satp,.int .u64 pte] w fun e w'=>e=.returned (jd (et level va satp pte))∧Below w.heap.size w w':=by
 unfold jd et;simp only;have n1:=(Below.refl w.heap.size w).alloc (Nat.le_refl _) (Obj.cells #[.bool false,.int .i64 0,.int .u64 0,.int .u64 0,.bool false,.int .u64 0] 62);go_enter Tryz.func47,Tryz.ntmps47;go_wp2_with (first
  | (go_at_call 89;refine (rM va level _ hv0 hv1 hl0 hl2).mono ?_;rintro e w' ⟨rfl,nq,rfl⟩)
  | (go_at_call 41;refine (pW satp _ hs0 hs1).mono ?_;rintro e w' ⟨rfl,nr,rfl⟩)
  | (go_at_call 70;refine (bU pte 5 32 _ hp0 hp1 (by omega) (by omega) rfl).mono ?_;rintro e w' ⟨rfl,ns,rfl⟩))
 exact bodyPost_ret (v:=.agg #[.bool true,.int .i64 level,.int .u64 (dt va level),.int .u64 (ay satp),.bool (bK pte 32),.int .u64 pte]) (by simp [results,Tryz.results47,go_sem]) rfl ⟨rfl,Bm (below_drewN n1 _) (Nat.le_refl _) _ _ _ _ _ _⟩
def KOwn (base:Nat) (w:World) (v:Value) (k:KM):Prop:=
 ∃g1 c1 g2 c2 g3 c3,v=.agg #[.int .i64 k.i.sets,.int .i64 k.i.ways,.slice (some ⟨g1,0,none⟩) k.i.es.length c1,.int .i64 k.d.sets,.int .i64 k.d.ways,.slice (some ⟨g2,0,none⟩) k.d.es.length c2,.int .i64 k.p.sets,.int .i64 k.p.ways,.slice (some ⟨g3,0,none⟩) k.p.es.length c3]∧
  w.ownsRow base 62 6 (.slice (some ⟨g1,0,none⟩) k.i.es.length c1) k.i.es.length (aL k.i.es)∧w.ownsRow base 62 6 (.slice (some ⟨g2,0,none⟩) k.d.es.length c2) k.d.es.length (aL k.d.es)∧w.ownsRow base 62 6 (.slice (some ⟨g3,0,none⟩) k.p.es.length c3) k.p.es.length (aL k.p.es)
set_option maxRecDepth 20000 in
set_option maxHeartbeats 1600000 in
theorem gY (v:Value) (k:KM) (w:World) (h:KAt w v k):
 Calls Tryz.prog 39 #[v] w fun e w'=>(∃x,e=.returned x∧KOwn w.heap.size w' x k)∧Below w.heap.size w w':=by
 obtain ⟨a1,c1,a2,c2,a3,c3,rfl,t1,t2,t3⟩:=h;have HL1:Hid (∀v,Below w.heap.size w v→Calls Tryz.prog 76 #[.agg #[.int .i64 k.i.sets,.int .i64 k.i.ways,.slice a1 k.i.es.length c1]] v fun e w'=>(∃x,e=.returned x∧TlbOwn v.heap.size w' x k.i)∧Below v.heap.size v w'):=fun v hv=>gx _ _ v (t1.keep hv);have HL2:Hid (∀v,Below w.heap.size w v→Calls Tryz.prog 76 #[.agg #[.int .i64 k.d.sets,.int .i64 k.d.ways,.slice a2 k.d.es.length c2]] v fun e w'=>(∃x,e=.returned x∧TlbOwn v.heap.size w' x k.d)∧Below v.heap.size v w'):=fun v hv=>gx _ _ v (t2.keep hv);have HL3:Hid (∀v,Below w.heap.size w v→Calls Tryz.prog 76 #[.agg #[.int .i64 k.p.sets,.int .i64 k.p.ways,.slice a3 k.p.es.length c3]] v fun e w'=>(∃x,e=.returned x∧TlbOwn v.heap.size w' x k.p)∧Below v.heap.size v w'):=fun v hv=>gx _ _ v (t3.keep hv);clear t1 t2 t3;unfold TlbOwn at HL1 HL2 HL3;unfold KOwn;generalize k.i.es=e1 at *;generalize k.d.es=e2 at *;generalize k.p.es=e3 at *;generalize k.i.sets=s1 at *;generalize k.i.ways=w1 at *;generalize k.d.sets=s2 at *;generalize k.d.ways=w2 at *;generalize k.p.sets=s3 at *;generalize k.p.ways=w3 at *;obtain ⟨m1,hm1⟩:∃m,e1.length=m:=⟨_,rfl⟩;obtain ⟨m2,hm2⟩:∃m,e2.length=m:=⟨_,rfl⟩;obtain ⟨m3,hm3⟩:∃m,e3.length=m:=⟨_,rfl⟩;rw [hm1] at HL1 ⊢;rw [hm2] at HL2 ⊢;rw [hm3] at HL3 ⊢;clear hm1 hm2 hm3;generalize aL e1=q1 at *;generalize aL e2=q2 at *;generalize aL e3=q3 at *;have n1:=((Below.refl w.heap.size w).alloc (Nat.le_refl _) (Obj.cells #[.int .i64 s1,.int .i64 w1,.slice a1 m1 c1,.int .i64 s2,.int .i64 w2,.slice a2 m2 c2,.int .i64 s3,.int .i64 w3,.slice a3 m3 c3] 30)).alloc (by simp) (Obj.cells #[.int .i64 0,.int .i64 0,.slice none 0 0,.int .i64 0,.int .i64 0,.slice none 0 0,.int .i64 0,.int .i64 0,.slice none 0 0] 30);have H1:Hid (((w.alloc (Obj.cells #[.int .i64 s1,.int .i64 w1,.slice a1 m1 c1,.int .i64 s2,.int .i64 w2,.slice a2 m2 c2,.int .i64 s3,.int .i64 w3,.slice a3 m3 c3] 30)).alloc (Obj.cells #[.int .i64 0,.int .i64 0,.slice none 0 0,.int .i64 0,.int .i64 0,.slice none 0 0,.int .i64 0,.int .i64 0,.slice none 0 0] 30)).heap[w.heap.size]?=some (.cells #[.int .i64 s1,.int .i64 w1,.slice a1 m1 c1,.int .i64 s2,.int .i64 w2,.slice a2 m2 c2,.int .i64 s3,.int .i64 w3,.slice a3 m3 c3] 30 (0,0))):=by
  show _=_;rw [heap_alloc_old _ _ (by simp)];exact heap_alloc_new w _
 have H2:Hid (((w.alloc (Obj.cells #[.int .i64 s1,.int .i64 w1,.slice a1 m1 c1,.int .i64 s2,.int .i64 w2,.slice a2 m2 c2,.int .i64 s3,.int .i64 w3,.slice a3 m3 c3] 30)).alloc (Obj.cells #[.int .i64 0,.int .i64 0,.slice none 0 0,.int .i64 0,.int .i64 0,.slice none 0 0,.int .i64 0,.int .i64 0,.slice none 0 0] 30)).heap[w.heap.size+1]?=some (.cells #[.int .i64 0,.int .i64 0,.slice none 0 0,.int .i64 0,.int .i64 0,.slice none 0 0,.int .i64 0,.int .i64 0,.slice none 0 0] 30 (0,0))):=by
  have:=heap_alloc_new (w.alloc (Obj.cells #[.int .i64 s1,.int .i64 w1,.slice a1 m1 c1,.int .i64 s2,.int .i64 w2,.slice a2 m2 c2,.int .i64 s3,.int .i64 w3,.slice a3 m3 c3] 30)) (Obj.cells #[.int .i64 0,.int .i64 0,.slice none 0 0,.int .i64 0,.int .i64 0,.slice none 0 0,.int .i64 0,.int .i64 0,.slice none 0 0] 30);simp only [World.size_alloc] at this;exact this
 have l1:w.heap.size+1<((w.alloc (Obj.cells #[.int .i64 s1,.int .i64 w1,.slice a1 m1 c1,.int .i64 s2,.int .i64 w2,.slice a2 m2 c2,.int .i64 s3,.int .i64 w3,.slice a3 m3 c3] 30)).alloc (Obj.cells #[.int .i64 0,.int .i64 0,.slice none 0 0,.int .i64 0,.int .i64 0,.slice none 0 0,.int .i64 0,.int .i64 0,.slice none 0 0] 30)).heap.size:=by simp
 go_enter Tryz.func39,Tryz.ntmps39;go_wp2_with fail;generalize ((w.alloc (Obj.cells #[.int .i64 s1,.int .i64 w1,.slice a1 m1 c1,.int .i64 s2,.int .i64 w2,.slice a2 m2 c2,.int .i64 s3,.int .i64 w3,.slice a3 m3 c3] 30)).alloc (Obj.cells #[.int .i64 0,.int .i64 0,.slice none 0 0,.int .i64 0,.int .i64 0,.slice none 0 0,.int .i64 0,.int .i64 0,.slice none 0 0] 30))=v1 at n1 H1 H2 l1 ⊢;have HC:Hid (∀v,Below v1.heap.size v1 v→v.cell? ⟨w.heap.size,0,none⟩=some (.int .i64 s1)∧v.cell? ⟨w.heap.size,1,none⟩=some (.int .i64 w1)∧v.cell? ⟨w.heap.size,2,none⟩=some (.slice a1 m1 c1)∧v.cell? ⟨w.heap.size,3,none⟩=some (.int .i64 s2)∧v.cell? ⟨w.heap.size,4,none⟩=some (.int .i64 w2)∧v.cell? ⟨w.heap.size,5,none⟩=some (.slice a2 m2 c2)∧v.cell? ⟨w.heap.size,6,none⟩=some (.int .i64 s3)∧v.cell? ⟨w.heap.size,7,none⟩=some (.int .i64 w3)∧v.cell? ⟨w.heap.size,8,none⟩=some (.slice a3 m3 c3)):=fun v hv=>cT (ab H1.out hv (by omega));obtain ⟨b0,b1,b2,b3,b4,b5,b6,b7,b8⟩:=HC.out v1 (Below.refl _ _);have i1:w.heap.size+1≠w.heap.size:=by omega
 have i2:w.heap.size≠w.heap.size+1:=by omega
 go_region_held3 (fun w'=>w'.cell? ⟨w.heap.size,0,none⟩=some (.int .i64 s1)∧w'.cell? ⟨w.heap.size,1,none⟩=some (.int .i64 w1)∧w'.cell? ⟨w.heap.size,2,none⟩=some (.slice a1 m1 c1)∧w'.cell? ⟨w.heap.size,3,none⟩=some (.int .i64 s2)∧w'.cell? ⟨w.heap.size,4,none⟩=some (.int .i64 w2)∧w'.cell? ⟨w.heap.size,5,none⟩=some (.slice a2 m2 c2)∧w'.cell? ⟨w.heap.size,6,none⟩=some (.int .i64 s3)∧w'.cell? ⟨w.heap.size,7,none⟩=some (.int .i64 w3)∧w'.cell? ⟨w.heap.size,8,none⟩=some (.slice a3 m3 c3)) (go_keep)
  (first
   | (go_at_call_of 76 (Value.agg #[Value.int IntKind.i64 s1,Value.int IntKind.i64 w1,Value.slice a1 m1 c1]);refine (HL1.out _ (Below.step n1 (Below.refl v1.heap.size v1).drew (Nat.le_refl _))).mono ?_;rintro e y1 ⟨⟨x1,rfl,g1,d1,rfl,o1⟩,n1'⟩;have my1:Below v1.heap.size v1 y1:=Below.step (Below.refl v1.heap.size v1).drew n1' (Nat.le_refl _);have kk:=HC.out y1 my1;obtain ⟨z10,z11,z12,z13,z14,z15,z16,z17,z18⟩:=kk;have OO1:Hid _:=o1;clear o1)
   | (go_at_call_of 76 (Value.agg #[Value.int IntKind.i64 s2,Value.int IntKind.i64 w2,Value.slice a2 m2 c2]);refine (HL2.out _ (Below.step n1 my1 (Nat.le_refl _))).mono ?_;rintro e y2 ⟨⟨x2,rfl,g2,d2,rfl,o2⟩,n2'⟩;have my2:Below v1.heap.size v1 y2:=Below.step my1 n2' (Nat.le_refl _);have kk:=HC.out y2 my2;obtain ⟨z20,z21,z22,z23,z24,z25,z26,z27,z28⟩:=kk;have OO2:Hid _:=o2;clear o2;have OP1:Hid _:=aj OO1.out n2';clear OO1)
   | (go_at_call_of 76 (Value.agg #[Value.int IntKind.i64 s3,Value.int IntKind.i64 w3,Value.slice a3 m3 c3]);refine (HL3.out _ (Below.step n1 my2 (Nat.le_refl _))).mono ?_;rintro e y3 ⟨⟨x3,rfl,g3,d3,rfl,o3⟩,n3'⟩;have my3:Below v1.heap.size v1 y3:=Below.step my2 n3' (Nat.le_refl _);have kk:=HC.out y3 my3;obtain ⟨z30,z31,z32,z33,z34,z35,z36,z37,z38⟩:=kk;have OO3:Hid _:=o3;clear o3;have OP1':Hid _:=aj OP1.out n3';have OP2:Hid _:=aj OO2.out n3';clear OP1 OO2;have F3:=ae H2 my3;have ff:=pV F3.out;have f0:=ff 0;have f1:=ff 1;have f2:=ff 2;have f3:=ff 3;have f4:=ff 4;have f5:=ff 5;have f6:=ff 6;have f7:=ff 7;have f8:=ff 8;have kk:=cT F3.out;obtain ⟨j0,j1,j2,j3,j4,j5,j6,j7,j8⟩:=kk;clear ff))
 go_wp2_with fail;have r1:w.heap.size+1<y1.heap.size:=Nat.lt_of_lt_of_le l1 my1.size;have r2:w.heap.size+1<y2.heap.size:=Nat.lt_of_lt_of_le l1 my2.size;exact bodyPost_ret (v:=.agg #[.int .i64 s1,.int .i64 w1,.slice (some ⟨g1,0,none⟩) m1 d1,.int .i64 s2,.int .i64 w2,.slice (some ⟨g2,0,none⟩) m2 d2,.int .i64 s3,.int .i64 w3,.slice (some ⟨g3,0,none⟩) m3 d3]) (by simp [results,Tryz.results39,go_sem,j0,j1,j2,j3,j4,j5,j6,j7,j8]) rfl
  ⟨⟨_,rfl,g1,d1,g2,d2,g3,d3,rfl,aT (bZ OP1'.out (gb9 y3 (w.heap.size+1) _ _ _ _ _ _ _ _ _) l1) (Nat.le_of_lt (Nat.lt_trans (Nat.lt_succ_self _) l1)),aT (bZ OP2.out (gb9 y3 (w.heap.size+1) _ _ _ _ _ _ _ _ _) r1) (by omega),aT (bZ OO3.out (gb9 y3 (w.heap.size+1) _ _ _ _ _ _ _ _ _) r2) (by omega)⟩,An (Below.step n1 my3 (Nat.le_refl _)) (by omega) _ _ _ _ _ _ _ _ _⟩
theorem KOwn.at {base:Nat} {w:World} {v:Value} {k:KM} (h:KOwn base w v k) (h1:ex k.i) (h2:ex k.d) (h3:ex k.p):KAt w v k:=by
 obtain ⟨g1,c1,g2,c2,g3,c3,rfl,o1,o2,o3⟩:=h;exact ⟨some ⟨g1,0,none⟩,c1,some ⟨g2,0,none⟩,c2,some ⟨g3,0,none⟩,c3,rfl,TlbOwn.at ⟨g1,c1,rfl,o1⟩ h1,TlbOwn.at ⟨g2,c2,rfl,o2⟩ h2,TlbOwn.at ⟨g3,c3,rfl,o3⟩ h3⟩
end Go.Proofs.YtaoaifmkhbgaiaaGreat

namespace Go.Proofs.YtaoaifmkhbgaiaaGreat
open Go.RowKit
set_option linter.unusedVariables false
section
variable {P:Program} {ops:Array Oper} {Q:Exit→Act→World→Prop} {rest:List Oper} {a:Act}
theorem az {d:Tmp} {T ty:TypeId} {x:Operand} {pos:String} {af:Array Edge} {w:World} {b o:Nat} {V:Value} (hx:a.eval x=.pointer (some ⟨b,o,none⟩)) (hl:(Instr.loadAt T (.pointer (some ⟨b,o,none⟩))).run P w=.ok V w)
 (h:wpList P ops Q rest (a.put (some d) V) w):wpList P ops Q ({ dst:=some d,op:=.load T x,type:=ty,pos:=pos,after:=af,guard:=none }::rest) a w:=
 wpList_plain rfl fun K hK=>by
  unfold Oper.wp execOp;simp only [hx,Sem.run_bind,hl,Result.andThen_ok,Sem.run_pure];exact hK _ _ h
theorem au {T ty:TypeId} {x y:Operand} {pos:String} {af:Array Edge} {w w':World} {b o:Nat} {V:Value} (hx:a.eval x=.pointer (some ⟨b,o,none⟩)) (hy:a.eval y=V) (hl:(Instr.storeAt T (.pointer (some ⟨b,o,none⟩)) V).run P w=.ok () w')
 (h:wpList P ops Q rest (a.put none undef) w'):wpList P ops Q ({ dst:=none,op:=.store T x y,type:=ty,pos:=pos,after:=af,guard:=none }::rest) a w:=
 wpList_plain rfl fun K hK=>by
  unfold Oper.wp execOp;simp only [hx,hy,Sem.run_bind,hl,Result.andThen_ok,Sem.run_pure];exact hK _ _ h
end
theorem pz {P:Program} {ops:Array Oper} {rest:List Oper} {a:Act} {K:Act→Prop} {w0:World} {d:Tmp} {T ty:TypeId} {x:Operand} {pos:String} {af:Array Edge} {b o:Nat} {V:Value} (hx:a.eval x=.pointer (some ⟨b,o,none⟩)) (hl:∀u:Lies w0,(Instr.loadAt T (.pointer (some ⟨b,o,none⟩))).run P u.w=.ok V u.w)
 (h:wpQuiet P ops (fun w'=>∃u:Lies w0,w'=u.w) K rest (a.put (some d) V)):wpQuiet P ops (fun w'=>∃u:Lies w0,w'=u.w) K ({ dst:=some d,op:=.load T x,type:=ty,pos:=pos,after:=af,guard:=none }::rest) a:=by
 unfold wpQuiet;rw [if_pos (by simp [Region.wanted])];refine ⟨V,?_,h⟩;rintro w ⟨u,rfl⟩;unfold Oper.quietAt execOp;simp only [hx,Sem.run_bind,hl u,Result.andThen_ok,Sem.run_pure];exact ⟨rfl,rfl⟩
theorem pC {w0:World} {b:Nat} {o:Obj} (h:w0.heap[b]?=some o) (u:Lies w0):u.w.heap[b]?=some o:=
 (u.h.block b (Array.getElem?_eq_some_iff.1 h).1).trans h
theorem tK {w:World} {b:Nat} {C:Array Value} {t:TypeId} {fr:Nat × Nat} (hb:w.heap[b]?=some (.cells C t fr)) {o n:Nat} {L:List Value} (hL:(C.toList.drop o).take n=L):w.rangeAt b o L:=by
 intro j v hv;rw [←hL,List.getElem?_take] at hv;split at hv
 ·rw [List.getElem?_drop] at hv;simp only [World.cell?,hb];simpa using hv
 ·cases hv
theorem co {P:Program} {w:World} {b:Nat} {C:Array Value} {t:TypeId} {fr:Nat × Nat} (hb:w.heap[b]?=some (.cells C t fr)) {T:TypeId} {d:TypeDesc} (hu:P.underlying T=some d) (hd:d.isRow=true) {o n:Nat} (L:List Value) (hi:(P.info? T).map (·.size)=some n) (hL:(C.toList.drop o).take n=L) (hn:L.length=n):
 (Instr.loadAt T (.pointer (some ⟨b,o,none⟩))).run P w=.ok (.agg L.toArray) w:=
 run_loadAt_mid w b o T L d (tK hb hL) hu hd (by rw [hn];exact hi)
theorem wj {P:Program} {w:World} {b:Nat} {C:Array Value} {t:TypeId} {fr:Nat × Nat} (hb:w.heap[b]?=some (.cells C t fr)) {T:TypeId} {d:TypeDesc} (hu:P.underlying T=some d) (hd:d.isRow=true) {o n:Nat} (L:List Value) (hi:(P.info? T).map (·.size)=some n) (hL:(C.toList.drop o).take n=L) (hn:L.length=n):
 (loadVar T ⟨b,o,none⟩).run P w=.ok (.agg L.toArray) w:=
 run_loadVar_mid w b o T L d (tK hb hL) hu hd (by rw [hn];exact hi)
def jF (C:Array Value) (o:Nat) (L:List Value):Array Value:=(C.toList.take o++L++C.toList.drop (o+L.length)).toArray
theorem dr (b:Nat):∀(L:List Value) (o:Nat) (w:World) (C:Array Value) (t:TypeId) (fr:Nat × Nat),w.heap[b]?=some (.cells C t fr)→o+L.length≤C.size→(w.setCells b o L).heap[b]?=some (.cells (jF C o L) t fr)
 | [],o,w,C,t,fr,h,hl=>by simp [World.setCells,jF,h]
 | v::L,o,w,C,t,fr,h,hl=>by
  simp only [List.length_cons] at hl;have h1:(w.setCell ⟨b,o,none⟩ v).heap[b]?=some (.cells (C.setIfInBounds o v) t fr):=by
   simp [World.setCell,Array.getElem?_modify,h]
  have h2:=dr b L (o+1) _ _ t fr h1 (by simp;omega);have e:jF (C.setIfInBounds o v) (o+1) L=jF C o (v::L):=by
   unfold jF;congr 1;simp only [Array.toList_setIfInBounds,List.length_cons];have hlen:o<C.toList.length:=by simpa using (by omega:o<C.size)
   rw [List.take_add_one,List.take_set_of_le (Nat.le_refl _),List.getElem?_set_self hlen,List.drop_set_of_lt (by omega),show o+1+L.length=o+(L.length+1) by omega];simp
  rw [←e];exact h2
theorem aU (b:Nat):∀(L:List Value) (o:Nat) (w v:World),w.grownBy v (some b)→w.grownBy (v.setCells b o L) (some b)
 | [],o,w,v,h=>h
 | x::L,o,w,v,h=>aU b L (o+1) w _ (ax h o x)
theorem fe {P:Program} {w:World} {b:Nat} {C:Array Value} {t:TypeId} (hb:w.heap[b]?=some (.cells C t (0,0))) {T:TypeId} {o:Nat} {V:Array Value} (hi:(P.info? T).map (·.size)=some V.size) (hs:o+V.size≤C.size) (h1:V.all (·.oneCell')=true):
 (Instr.storeAt T (.pointer (some ⟨b,o,none⟩)) (.agg V)).run P w=.ok () (w.setCells b o V.toList):=by
 refine run_storeAt_mid w b o T V (fun j hj=>?_) hi h1;refine ⟨?_,?_⟩
 ·have:o+j<C.size:=by omega
  simp [World.cell?,hb,this]
 ·simp [World.frozen?,hb]
theorem da {w:World} {b:Nat} {C:Array Value} {t:TypeId} {fr:Nat × Nat} (hb:w.heap[b]?=some (.cells C t fr)) (i:Nat) (v:Value):(w.setCell ⟨b,i,none⟩ v).heap[b]?=some (.cells (C.setIfInBounds i v) t fr):=by
 simp [World.setCell,Array.getElem?_modify,hb]
theorem ag {w:World} {b:Nat} {C:Array Value} {t:TypeId} {fr:Nat × Nat} (hb:w.heap[b]?=some (.cells C t fr)) (i:Nat) {v:Value} (hv:C[i]?=some v):w.cell? ⟨b,i,none⟩=some v:=by
 simp [World.cell?,hb,hv]
theorem aA {w:World} {b:Nat} {C:Array Value} {t:TypeId} (hb:w.heap[b]?=some (.cells C t (0,0))) (i:Nat):w.frozen? ⟨b,i,none⟩=false:=by
 simp [World.frozen?,hb]
theorem fw {w w':World} {b r:Nat} {o:Obj} (h:w.heap[b]?=some o) (hg:w.grownBy w' (some r)) (hne:b≠r):w'.heap[b]?=some o:=av h hg hne
theorem dJ {w:World} {b r:Nat} {o:Obj} (h:w.heap[b]?=some o) (i:Nat) (v:Value) (hne:b≠r):(w.setCell ⟨r,i,none⟩ v).heap[b]?=some o:=by
 rw [←h];simp [World.setCell,Array.getElem?_modify,Ne.symm hne]
theorem ia {w:World} {b r:Nat} {o:Obj} (h:w.heap[b]?=some o) (i:Nat) (L:List Value) (hne:b≠r):(w.setCells r i L).heap[b]?=some o:=
 av h (aU r L i w w (aE w (some r))) hne
theorem dC {B:Nat} {a w:World} {g:Nat} (h:Below B a w) (hg:B≤g) (i:Nat) (v:Value):Below B a (w.setCell ⟨g,i,none⟩ v):=h.setCell hg _
theorem bf {B:Nat} {a:World} {g:Nat} (hg:B≤g):∀(L:List Value) (o:Nat) (w:World),Below B a w→Below B a (w.setCells g o L)
 | [],o,w,h=>h
 | x::L,o,w,h=>bf hg L (o+1) _ (h.setCell hg _)
theorem dy (b:Nat):∀(L:List Value) (o:Nat) (w:World),(w.setCells b o L).heap.size=w.heap.size
 | [],o,w=>rfl
 | x::L,o,w=>by
  rw [World.setCells,dy b L (o+1)];simp
theorem zN (C V:Array Value) (h:V.size=C.size):jF C 0 V.toList=V:=by
 unfold jF;rw [List.take_zero,List.drop_of_length_le (by simp [h])];simp
theorem aB {P:Program} {w:World} {b:Nat} {C:Array Value} {t:TypeId} {fr:Nat × Nat} (hb:w.heap[b]?=some (.cells C t fr)) {T:TypeId} {d:TypeDesc} (hu:P.underlying T=some d) (hd:d.isRow=true) (hi:(P.info? T).map (·.size)=some C.size):
 (Instr.loadAt T (.pointer (some ⟨b,0,none⟩))).run P w=.ok (.agg C) w:=by
 have:=co (P:=P) hb hu hd (o:=0) C.toList hi (by rw [List.drop_zero,List.take_of_length_le (by simp)]) (by simp);simpa using this
theorem bj {P:Program} {w:World} {b:Nat} {C:Array Value} {t:TypeId} {fr:Nat × Nat} (hb:w.heap[b]?=some (.cells C t fr)) {T:TypeId} {d:TypeDesc} (hu:P.underlying T=some d) (hd:d.isRow=true) (hi:(P.info? T).map (·.size)=some C.size):
 (loadVar T ⟨b,0,none⟩).run P w=.ok (.agg C) w:=by
 have:=wj (P:=P) hb hu hd (o:=0) C.toList hi (by rw [List.drop_zero,List.take_of_length_le (by simp)]) (by simp);simpa using this
theorem bO {P:Program} {w:World} {b:Nat} {C V:Array Value} {t:TypeId} (hb:w.heap[b]?=some (.cells C t (0,0))) {T:TypeId} (hi:(P.info? T).map (·.size)=some V.size) (hs:V.size=C.size) (h1:V.all (·.oneCell')=true):
 (Instr.storeAt T (.pointer (some ⟨b,0,none⟩)) (.agg V)).run P w=.ok () (w.setCells b 0 V.toList):=
 fe hb hi (by omega) h1
theorem bs {w:World} {b:Nat} {C V:Array Value} {t:TypeId} {fr:Nat × Nat} (hb:w.heap[b]?=some (.cells C t fr)) (hs:V.size=C.size):(w.setCells b 0 V.toList).heap[b]?=some (.cells V t fr):=by
 rw [dr b V.toList 0 w C t fr hb (by simp;omega),zN C V hs]
theorem mJ {C:Array Value} (h:C.all (·.oneCell')=true) (i:Nat) {v:Value} (hv:v.oneCell'=true):(C.setIfInBounds i v).all (·.oneCell')=true:=by
 rw [Array.all_eq_true_iff_forall_mem] at h ⊢;intro x hx;rcases Array.mem_or_eq_of_mem_setIfInBounds hx with hx | rfl
 ·exact h x hx
 ·exact hv
theorem di (w:World) (A:Array Value) (T:TypeId):(w.alloc (.cells A T)).heap[w.heap.size]?=some (.cells A T (0,0))∧(w.alloc (.cells A T)).heap.size=w.heap.size+1∧Below w.heap.size w (w.alloc (.cells A T)):=
 ⟨heap_alloc_new w _,by simp,(Below.refl _ _).alloc (Nat.le_refl _) _⟩
theorem eU (w:World) (A B:Array Value) (T U:TypeId):((w.alloc (.cells A T)).alloc (.cells B U)).heap[w.heap.size]?=some (.cells A T (0,0))∧((w.alloc (.cells A T)).alloc (.cells B U)).heap[w.heap.size+1]?=some (.cells B U (0,0))∧((w.alloc (.cells A T)).alloc (.cells B U)).heap.size=w.heap.size+2∧Below w.heap.size w ((w.alloc (.cells A T)).alloc (.cells B U)):=by
 refine ⟨?_,?_,by simp,((Below.refl _ _).alloc (Nat.le_refl _) _).alloc (by simp) _⟩
 ·rw [heap_alloc_old _ _ (by simp)];exact heap_alloc_new w _
 ·have:=heap_alloc_new (w.alloc (.cells A T)) (.cells B U);simp only [World.size_alloc] at this;exact this
theorem xz (w:World) (A B C:Array Value) (T U S:TypeId):(((w.alloc (.cells A T)).alloc (.cells B U)).alloc (.cells C S)).heap[w.heap.size]?=some (.cells A T (0,0))∧(((w.alloc (.cells A T)).alloc (.cells B U)).alloc (.cells C S)).heap[w.heap.size+1]?=some (.cells B U (0,0))∧(((w.alloc (.cells A T)).alloc (.cells B U)).alloc (.cells C S)).heap[w.heap.size+2]?=some (.cells C S (0,0))∧
 (((w.alloc (.cells A T)).alloc (.cells B U)).alloc (.cells C S)).heap.size=w.heap.size+3∧Below w.heap.size w (((w.alloc (.cells A T)).alloc (.cells B U)).alloc (.cells C S)):=by
 obtain ⟨h1,h2,h3,h4⟩:=eU w A B T U;obtain ⟨k1,k2,k3⟩:=di ((w.alloc (.cells A T)).alloc (.cells B U)) C S;refine ⟨ab h1 k3 (by omega),ab h2 k3 (by omega),by rw [h3] at k1;exact k1,by omega,Below.step h4 k3 (Nat.le_refl _)⟩
theorem ec {P:Program} {fn:Func} {R:Ending→World→Prop} {a:Act} {w:World} {s:Tmp} {T:TypeId} {b:Nat} {V:Value} (hr:fn.results=#[ResultVar.cell s T]) (hs:a.tmps[s]?=some (.pointer (some ⟨b,0,none⟩))) (hl:(loadVar T ⟨b,0,none⟩).run P w=.ok V w) (hd:a.defers=[]) (hR:R (.returned V) w):bodyPost P fn R .ret a w:=by
 refine bodyPost_ret (v:=V) ?_ hd hR;simp [results,hr,hs,asAddr,hl]
theorem nX {e T:TypeId} {size base n pb:Nat} {w:World} {s:Value} {cs:List Value} {cur:Array Value} {q:Nat × Nat} (h:w.ownsRow base e size s n cs) (hp:w.heap[pb]?=some (.cells cur T q)) (hT:T≠e):s.ownBlock≠some pb:=by
 rcases h.2 with ⟨h1,_⟩ | ⟨g,cap,cur',h1,_,h3,_⟩
 ·rw [h1];simp [Value.ownBlock]
 ·rw [h1];simp only [Value.ownBlock];intro he;have:g=pb:=Option.some.inj he;subst this;rw [h3] at hp;cases hp;exact hT rfl
theorem bT {e T:TypeId} {size base n pb:Nat} {w w':World} {s:Value} {cs:List Value} {cur:Array Value} {q:Nat × Nat} (h:w.ownsRow base e size s n cs) (hp:w.heap[pb]?=some (.cells cur T q)) (hT:T≠e) (hg:w.grownBy w' (some pb)):w'.ownsRow base e size s n cs:=
 h.kept hg (.inr (nX h hp hT))
theorem aM {P:Program} {a:Act} {d:Option Tmp} {T ty:TypeId} {x:Operand} {pos:String} {af:Array Edge} {g:Option (Nat × Bool)} {w:World} {b o:Nat} {V:Value} (hx:a.eval x=.pointer (some ⟨b,o,none⟩)) (hl:(Instr.loadAt T (.pointer (some ⟨b,o,none⟩))).run P w=.ok V w):
 (execOp a.eval { dst:=d,op:=.load T x,type:=ty,pos:=pos,after:=af,guard:=g }).run P w=.ok (.value V) w:=by
 unfold execOp;simp only [hx,Sem.run_bind,hl,Result.andThen_ok,Sem.run_pure]
theorem sn {P:Program} {ops:Array Oper} {Q:Exit→Act→World→Prop} {S:World→Prop} {fuel:Nat} {listed:Array Bool} {a:Act} {w w':World} (i:Nat) {T ty:TypeId} {x y:Operand} {pos:String} {af:Array Edge} (hi:ops[i]?=some { dst:=none,op:=.store T x y,type:=ty,pos:=pos,after:=af,guard:=none }) (hr:Region.ready .any ops listed=[i])
 {b o:Nat} {V:Value} (hx:a.eval x=.pointer (some ⟨b,o,none⟩)) (hy:a.eval y=V) (hl:(Instr.storeAt T (.pointer (some ⟨b,o,none⟩)) V).run P w=.ok () w') (hS:S w') (h:wpAnyH P .any ops Q S fuel (listed.setIfInBounds i true) a w'):wpAnyH P .any ops Q S (fuel+1) listed a w:=by
 refine wpAnyH_all hr (by simp) (fun j hj=>?_);have:j=i:=by simpa using hj
 subst this;unfold wpOp;simp only [hi];rw [if_pos (by simp [Region.wanted])];refine .inl ?_;unfold Oper.wp execOp;simp only [hx,hy,Sem.run_bind,hl,Result.andThen_ok,Sem.run_pure];exact ⟨hS,h⟩
end Go.Proofs.YtaoaifmkhbgaiaaGreat

namespace Go.Proofs.YtaoaifmkhbgaiaaGreat
open Go.RowKit
set_option linter.unusedVariables false
structure PtrM where
 am:Option Addr
 cm:Nat
 ar:Option Addr
 cr:Nat
 a1:Option Addr
 c1:Nat
 a2:Option Addr
 c2:Nat
 a3:Option Addr
 c3:Nat
def kA (p:PtrM) (k:KM):Array Value:=#[.int .i64 k.i.sets,.int .i64 k.i.ways,.slice p.a1 k.i.es.length p.c1,.int .i64 k.d.sets,.int .i64 k.d.ways,.slice p.a2 k.d.es.length p.c2,.int .i64 k.p.sets,.int .i64 k.p.ways,.slice p.a3 k.p.es.length p.c3]
def aD (p:PtrM) (h:HartM):Array Value:=#[.slice p.am h.mem.length p.cm,.slice p.ar h.regs.length p.cr,.int .u64 h.pc,.int .i64 h.mode,.bool h.sum,.bool h.mxr,.int .u64 h.satp,.int .u64 h.tvec,.int .u64 h.epc,.int .i64 h.emode,.int .i64 h.cause,.int .u64 h.tval,
 .int .i64 h.k.i.sets,.int .i64 h.k.i.ways,.slice p.a1 h.k.i.es.length p.c1,.int .i64 h.k.d.sets,.int .i64 h.k.d.ways,.slice p.a2 h.k.d.es.length p.c2,.int .i64 h.k.p.sets,.int .i64 h.k.p.ways,.slice p.a3 h.k.p.es.length p.c3]
def aK (p:PtrM) (al:Option Addr) (cl:Nat) (plain:Bool) (pick:Int) (r:RunM):Array Value:=#[.slice p.am r.h.mem.length p.cm,.slice p.ar r.h.regs.length p.cr,.int .u64 r.h.pc,.int .i64 r.h.mode,.bool r.h.sum,.bool r.h.mxr,.int .u64 r.h.satp,.int .u64 r.h.tvec,.int .u64 r.h.epc,.int .i64 r.h.emode,.int .i64 r.h.cause,.int .u64 r.h.tval,
 .int .i64 r.h.k.i.sets,.int .i64 r.h.k.i.ways,.slice p.a1 r.h.k.i.es.length p.c1,.int .i64 r.h.k.d.sets,.int .i64 r.h.k.d.ways,.slice p.a2 r.h.k.d.es.length p.c2,.int .i64 r.h.k.p.sets,.int .i64 r.h.k.p.ways,.slice p.a3 r.h.k.p.es.length p.c3,
 .bool plain,.int .i64 pick,.int .i64 r.cause,.int .u64 r.tval,.slice al r.looks.length cl,.bool r.fenced,.bool r.fence.hasVa,.int .u64 r.fence.va,.bool r.fence.hasAsid,.int .u64 r.fence.asid]
def eQ:List (Int × Int)→List Value
 | []=>[]
 | l::ls=>.int .i64 l.1::.int .u64 l.2::eQ ls
def fx (zs:List Int):List Value:=zs.map (Value.int .u64)
def aQ (p:PtrM):List (Option Addr):=[p.am,p.ar,p.a1,p.a2,p.a3]
def From (B:Nat) (p p':PtrM):Prop:=∀q,some q∈aQ p'→some q∈aQ p∨B≤q.block
def FromL (B:Nat) (al al':Option Addr):Prop:=∀q,al'=some q→al=some q∨B≤q.block
structure HartIn (w:World) (p:PtrM) (h:HartM):Prop where
 mem:Byt w p.am h.mem.length h.mem
 memc:h.mem.length≤p.cm∧p.cm≤9223372036854775807
 regs:RowC w p.ar h.regs.length 1 (fx h.regs)
 regc:h.regs.length≤p.cr∧p.cr≤9223372036854775807
 rega:(p.ar=none→h.regs.length=0∧p.cr=0)∧∀q,p.ar=some q→q.spot=none
 ks:KAt w (.agg (kA p h.k)) h.k
 low:∀q,some q∈aQ p→q.block<w.heap.size
structure RunIn (w:World) (p:PtrM) (al:Option Addr) (cl:Nat) (r:RunM):Prop where
 h:HartIn w p r.h
 looks:RowC w al r.looks.length 2 (eQ r.looks)
 lookc:r.looks.length≤cl∧cl≤9223372036854775807
 looka:(al=none→r.looks.length=0∧cl=0)∧∀q,al=some q→q.spot=none
 lookl:r.looks.length≤8
 low:∀q,al=some q→q.block<w.heap.size
theorem HartIn.keep {w w':World} {p:PtrM} {h:HartM} (k:HartIn w p h) (hb:Below w.heap.size w w'):HartIn w' p h:=
 ⟨k.mem.keep hb,k.memc,k.regs.keep hb,k.regc,k.rega,k.ks.keep hb,fun q hq=>Nat.lt_of_lt_of_le (k.low q hq) hb.size⟩
theorem RunIn.keep {w w':World} {p:PtrM} {al:Option Addr} {cl:Nat} {r:RunM} (k:RunIn w p al cl r) (hb:Below w.heap.size w w'):RunIn w' p al cl r:=
 ⟨k.h.keep hb,k.looks.keep hb,k.lookc,k.looka,k.lookl,fun q hq=>Nat.lt_of_lt_of_le (k.low q hq) hb.size⟩
theorem Byt.gb' {w w':World} {a:Option Addr} {len r:Nat} {zs:List Int} (h:Byt w a len zs) (hg:w.grownBy w' (some r)) (hne:∀q,a=some q→q.block≠r):Byt w' a len zs:=by
 obtain ⟨h1,h2,h3⟩:=h;refine ⟨h1,h2,?_⟩;rcases h3 with h3 | ⟨b,off,rfl,hb,hc⟩
 ·exact .inl h3
 ·have hne':b≠r:=hne ⟨b,off,none⟩ rfl;exact .inr ⟨b,off,rfl,Nat.lt_of_lt_of_le hb hg.size,fun i hi=>(World.cell?_of_block (hg.block b hb (by simpa using hne'))).trans (hc i hi)⟩
theorem TlbAt.gb' {w w':World} {t:TlbM} {a:Option Addr} {n c r:Nat} {x y:Value} (h:TlbAt w (.agg #[x,y,.slice a n c]) t) (hg:w.grownBy w' (some r)) (hne:∀q,a=some q→q.block≠r):TlbAt w' (.agg #[x,y,.slice a n c]) t:=by
 obtain ⟨a',c',he,hr,rest⟩:=h;simp only [Value.agg.injEq,Array.mk.injEq,List.cons.injEq,Value.slice.injEq,and_true] at he;obtain ⟨rfl,rfl,rfl,rfl,rfl⟩:=he;exact ⟨_,_,rfl,RowC.gb' hr hg hne,rest⟩
theorem HartIn.gb {w w':World} {p:PtrM} {h:HartM} {r:Nat} (k:HartIn w p h) (hg:w.grownBy w' (some r)) (hne:∀q,some q∈aQ p→q.block≠r):HartIn w' p h:=by
 refine ⟨k.mem.gb' hg fun q hq=>hne q (by simp [aQ,hq]),k.memc,RowC.gb' k.regs hg fun q hq=>hne q (by simp [aQ,hq]),k.regc,k.rega,?_,fun q hq=>Nat.lt_of_lt_of_le (k.low q hq) hg.size⟩;obtain ⟨a1,c1,a2,c2,a3,c3,he,t1,t2,t3⟩:=k.ks;simp only [kA,Value.agg.injEq,Array.mk.injEq,List.cons.injEq,Value.slice.injEq,true_and,and_true] at he;obtain ⟨⟨rfl,rfl⟩,⟨rfl,rfl⟩,rfl,rfl⟩:=he;exact ⟨_,_,_,_,_,_,rfl,t1.gb' hg fun q hq=>hne q (by simp [aQ,hq]),t2.gb' hg fun q hq=>hne q (by simp [aQ,hq]),t3.gb' hg fun q hq=>hne q (by simp [aQ,hq])⟩
theorem RunIn.gb {w w':World} {p:PtrM} {al:Option Addr} {cl r:Nat} {rm:RunM} (k:RunIn w p al cl rm) (hg:w.grownBy w' (some r)) (hne:∀q,some q∈aQ p→q.block≠r) (hnl:∀q,al=some q→q.block≠r):RunIn w' p al cl rm:=
 ⟨k.h.gb hg hne,RowC.gb' k.looks hg hnl,k.lookc,k.looka,k.lookl,fun q hq=>Nat.lt_of_lt_of_le (k.low q hq) hg.size⟩
abbrev fu:Array Value:=#[.slice none 0 0,.slice none 0 0,.int .u64 0,.int .i64 0,.bool false,.bool false,.int .u64 0,.int .u64 0,.int .u64 0,.int .i64 0,.int .i64 0,.int .u64 0,.int .i64 0,.int .i64 0,.slice none 0 0,.int .i64 0,.int .i64 0,.slice none 0 0,.int .i64 0,.int .i64 0,.slice none 0 0]
abbrev ek:Array Value:=#[.slice none 0 0,.slice none 0 0,.int .u64 0,.int .i64 0,.bool false,.bool false,.int .u64 0,.int .u64 0,.int .u64 0,.int .i64 0,.int .i64 0,.int .u64 0,.int .i64 0,.int .i64 0,.slice none 0 0,.int .i64 0,.int .i64 0,.slice none 0 0,.int .i64 0,.int .i64 0,.slice none 0 0,.bool false,.int .i64 0,.int .i64 0,.int .u64 0,.slice none 0 0,.bool false,.bool false,.int .u64 0,.bool false,.int .u64 0]
theorem dU (p:PtrM) (al:Option Addr) (cl:Nat) (plain:Bool) (pick:Int) (r:RunM):(aK p al cl plain pick r).all (·.oneCell')=true:=by
 simp [aK,Value.oneCell']
theorem fD (p:PtrM) (h:HartM):(aD p h).all (·.oneCell')=true:=by
 simp [aD,Value.oneCell']
theorem bD (p:PtrM) (al:Option Addr) (cl:Nat) (plain:Bool) (pick:Int) (r:RunM):(aK p al cl plain pick r).size=31:=rfl
theorem ez (p:PtrM) (h:HartM):(aD p h).size=21:=rfl
theorem a8:ek.size=31:=rfl
theorem fE:fu.size=21:=rfl
theorem du:(Tryz.prog.info? 143).map (·.size)=some 31:=by kernel_rfl
theorem fW:(Tryz.prog.info? 48).map (·.size)=some 21:=by kernel_rfl
end Go.Proofs.YtaoaifmkhbgaiaaGreat
