import Derived.Test.YtkenjknmfhoppaaGreatPk05
import Derived.Deep.DeepCutAuto
namespace Go.Proofs.YtkenjknmfhoppaaGreat
open Go.RowKit
set_option linter.unusedVariables false
set_option maxHeartbeats 6400000
set_option maxRecDepth 20000
section
attribute [local go_sem ↓] Go.wp_at_zero Go.wp_at_succ
theorem Tryz.infoEnt:(Tryz.prog.info? 127).map (fun i=>(i.zero,i.size,i.bytes))=some (some (.agg #[.bool false,VI 0,VU 0,VU 0,.bool false,VU 0]),6,48):=by kernel_rfl
theorem qE:∀es:List EntM,∀u∈cH es,u.oneCell'=true
 | [],u,h=>by simp [cH] at h
 | e::r,u,h=>by
  simp only [cH,List.mem_append] at h;rcases h with h | h
  ·simp [po] at h;rcases h with rfl | rfl | rfl | rfl | rfl | rfl <;> rfl
  ·exact qE r u h
def TlbOwn (base:Nat) (w:World) (v:Value) (t:TlbM):Prop:=
 ∃g cap,v=.agg #[VI t.sets,VI t.ways,SL g t.es.length cap]∧w.ownsRow base 127 6 (SL g t.es.length cap) t.es.length (cH t.es)
theorem oV (v:Value) (t:TlbM) (w:World) (h:TlbAt w v t):
 Calls Tryz.prog 90 #[v] w fun e w'=>(∃x,e=.returned x∧TlbOwn w.heap.size w' x t)∧Bw w w':=by
 have HT:=hid h;obtain ⟨a,cap,rfl,hr,_,_,_,hl,hlc,hcm,hnil,hsp⟩:=h;obtain ⟨sets,ways,es⟩:=t;obtain ⟨n,hn⟩:∃n,es.length=n:=⟨_,rfl⟩;simp only at hr hl hlc hnil |-;rw [hn] at hr hl hlc hnil |-;obtain ⟨v1,Ev1,n1,H1,H2,l1⟩:=al2 w #[VI sets,VI ways,.slice a n cap] #[VI 0,VI 0,SN] 39 39;have HR1:=hid (hr.keep n1);have HN:=hid hnil;have HSp:=hid hsp;clear hr hnil hsp HT;go_enter Tryz.func90,Tryz.ntmps90;go_wp2_with fail;rw [Ev1.out];clear Ev1;obtain ⟨⟨c0,c1,c2⟩,_,_,_⟩:=aE H1.out;obtain ⟨⟨d0,d1,d2⟩,e0,e1,e2⟩:=aE H2.out;have ne1:v1.heap.size≠w.heap.size:=by omega
 have ne2:w.heap.size≠v1.heap.size:=by omega
 have ne3:v1.heap.size≠w.heap.size+1:=by omega
 have ne4:w.heap.size+1≠v1.heap.size:=by omega
 have n2:=((Below.refl v1.heap.size v1).alloc nle (Obj.cells #[] 127)).drew;go_region_held3 (fun w'=>w'.cell? (AD w.heap.size 0)=some (VI sets)∧w'.cell? (AD w.heap.size 1)=some (VI ways)∧w'.cell? (AD w.heap.size 2)=some (.slice a n cap)) (go_keep)
  (first
   | (refine oE _ (by rfl) (.tmp 7) (.tmp 9) 37 (by rfl) 127 Tryz.underlying37 (.agg #[.bool false,VI 0,VU 0,VU 0,.bool false,VU 0]) 6 48 Tryz.infoEnt (by rfl) (by decide) v1.heap.size v1.heap.size 0 0 [] (by rfl) (OwnC.new 127 6 v1.drew [] 0 (by rfl) (by decide)) a n cap (cH es) (by rfl) HN.out HSp.out (RowC.keep HR1.out n2) (qE es) (by omega) (by omega) v1.heap.size v1 n2 nle ?_;intro g3 c3 v3 o3 n3;have k1:=aE (ae H1.out n3 (by omega));have k2:=aE (ae H2.out n3 l1);obtain ⟨⟨q0,q1,q2⟩,_,_,_⟩:=k1;obtain ⟨⟨j0,j1,j2⟩,i0,i1,i2⟩:=k2;have l3:=n3.size;have O3:Hid (OwnC 127 6 v3 v1.heap.size g3 (0+n) c3 ([]++cH es)):=o3;clear o3))
 go_wp2_with fail;have O4:v3.ownsRow v1.heap.size 127 6 (SL g3 n c3) n (cH es):=by
  have:=O3.out;rw [Nat.zero_add,List.nil_append] at this;exact this
 refine bodyPost_ret (v:=.agg #[VI sets,VI ways,SL g3 n c3]) (by simp [results,Tryz.results90,go_sem,j0,j1,j2]) rfl ⟨⟨_,rfl,g3,c3,by rw [hn],?_⟩,kT (bst n1 n3) (by omega) _ _ _⟩;rw [hn];exact bW (aD O4 (gb3 v3 (w.heap.size+1) _ _ _) l1) (by omega)
theorem TlbOwn.row {base:Nat} {w:World} {v:Value} {t:TlbM} (h:TlbOwn base w v t):∃g cap,v=.agg #[VI t.sets,VI t.ways,SL g t.es.length cap]∧RowC w (some (AD g 0)) t.es.length 6 (cH t.es)∧base<=g∧g<w.heap.size:=by
 obtain ⟨g,cap,rfl,ho⟩:=h;have:=db ho;exact ⟨g,cap,rfl,eI ho,this.2.1,this.2.2⟩
theorem TlbOwn.keep {base:Nat} {w w':World} {v:Value} {t:TlbM} (h:TlbOwn base w v t) (hb:Bw w w'):TlbOwn base w' v t:=by
 obtain ⟨g,cap,rfl,ho⟩:=h;exact ⟨g,cap,rfl,aq ho hb⟩
def gy (t:TlbM):Prop:=
 (∀e∈t.es,iW e)∧(-9223372036854775808<=t.sets∧t.sets<=9223372036854775807)∧(-9223372036854775808<=t.ways∧t.ways<=9223372036854775807)∧t.es.length<=1048576
theorem TlbAt.ok {w:World} {v:Value} {t:TlbM} (h:TlbAt w v t):gy t:=by
 obtain ⟨a,cap,_,_,h1,h2,h3,h4,_⟩:=h;exact ⟨h1,h2,h3,h4⟩
theorem TlbOwn.at {base:Nat} {w:World} {v:Value} {t:TlbM} (h:TlbOwn base w v t) (hk:gy t):TlbAt w v t:=by
 obtain ⟨g,cap,rfl,ho⟩:=h;have hr:=eI ho;rcases ho.2 with ⟨h2,_⟩ | ⟨g',cap',cur,h2,hb,hg,hc1,hc2,_⟩
 ·cases h2
 ·cases h2;exact ⟨some (AD g 0),cap,rfl,hr,hk.1,hk.2.1,hk.2.2.1,hk.2.2.2,hc1,by unfold maxLen at hc2;omega,(by intro h;cases h),(by intro q hq;cases hq;rfl)⟩
end
section
attribute [local go_sem ↓] Go.wp_at_zero Go.wp_at_succ
def wS (f:FenceM):Value:=.agg #[.bool f.hasVa,VU f.va,.bool f.hasAsid,VU f.asid]
theorem wT (f:FenceM) (level tag asid:Int) (glob:Bool) (w:World) (h0:0<=f.va) (h1:f.va<=18446744073709551615) (hl0:0<=level) (hl2:level<=2):
 Calls Tryz.prog 62 #[wS f,VI level,VU tag,VU asid,.bool glob] w fun e w'=>e=.returned (.bool (eS f level tag asid glob))∧Bw w w':=by
 obtain ⟨hv,va,ha,fa⟩:=f;simp only at h0 h1;unfold wS;simp only;have n1:=(Below.refl w.heap.size w).alloc nle (Obj.cells #[.bool hv,VU va,.bool ha,VU fa] 59);obtain ⟨cn,hcn⟩:∃cn,de va=cn:=⟨_,rfl⟩;obtain ⟨tv,htv⟩:∃tv,eg va level=tv:=⟨_,rfl⟩;have HC:Hid (∀w:World,Calls Tryz.prog 55 #[VU va] w fun e w'=>e=.returned (.bool cn)∧∃n,w'=w.drewN n):=fun w=>by
  have:=fZ va w h0 h1;rw [hcn] at this;exact this
 have HT:Hid (∀w:World,Calls Tryz.prog 58 #[VU va,VI level] w fun e w'=>e=.returned (VU tv)∧∃n,w'=w.drewN n):=fun w=>by
  have:=tB va level w h0 h1 hl0 hl2;rw [htv] at this;exact this
 obtain ⟨R,hR⟩:∃R,eS ⟨hv,va,ha,fa⟩ level tag asid glob=R:=⟨_,rfl⟩;rw [hR];have HR:Hid (R=(!(hv && (!cn || tag != tv)) && (!ha || (!glob && asid == fa)))):=by
  show _=_;rw [<-hR,<-hcn,<-htv];rfl
 clear hR hcn htv;cases hv
 ·cases ha <;> cases glob;all_goals
   go_enter Tryz.func62,Tryz.ntmps62;go_wp2;go_ret;exact ⟨aL (by rw [HR.out];simp),n1⟩
 ·cases cn
  ·go_enter Tryz.func62,Tryz.ntmps62;go_wp2_with (go_at_call 55;refine (HC.out _).mono ?_;rintro e w' ⟨rfl,nq,rfl⟩);go_ret;exact ⟨aL (by rw [HR.out];simp),below_drewN n1 _⟩
  ·cases ht:(tag != tv)
   ·cases ha <;> cases glob;all_goals
     go_enter Tryz.func62,Tryz.ntmps62;go_wp2_with (first
      | (go_at_call 55;refine (HC.out _).mono ?_;rintro e w' ⟨rfl,nq,rfl⟩)
      | (go_at_call 58;refine (HT.out _).mono ?_;rintro e w' ⟨rfl,nr,rfl⟩))
     go_ret;exact ⟨aL (by rw [HR.out,ht];simp),below_drewN n1 (nq+nr)⟩
   ·go_enter Tryz.func62,Tryz.ntmps62;go_wp2_with (first
     | (go_at_call 55;refine (HC.out _).mono ?_;rintro e w' ⟨rfl,nq,rfl⟩)
     | (go_at_call 58;refine (HT.out _).mono ?_;rintro e w' ⟨rfl,nr,rfl⟩))
    go_ret;exact ⟨aL (by rw [HR.out,ht];simp),below_drewN n1 (nq+nr)⟩
end
section
attribute [local go_sem ↓] Go.wp_at_zero Go.wp_at_succ
def JL (f:FenceM) (k:Nat) (es:List EntM):List EntM:=(es.take k).map (df f)++es.drop k
theorem yN (f:FenceM) (k:Nat) (es:List EntM):(JL f k es).length=es.length:=by
 simp [JL];omega
theorem wG (f:FenceM) (k:Nat) (es:List EntM) (x:EntM) (hx:es[k]?=some x):JL f (k+1) es=(JL f k es).set k (df f x):=by
 obtain ⟨hk,rfl⟩:=List.getElem?_eq_some_iff.1 hx;unfold JL;apply List.ext_getElem?;intro j;rw [List.getElem?_set];by_cases hj:k=j
 ·subst hj;rw [if_pos rfl,if_pos (by simp;omega),List.getElem?_append_left (by simp;omega)];simp [hk]
 ·rw [if_neg hj];by_cases hlt:j<k
  ·rw [List.getElem?_append_left (by simp;omega),List.getElem?_append_left (by simp;omega)];simp [hlt,show j<k+1 by omega]
  ·rw [List.getElem?_append_right (by simp;omega),List.getElem?_append_right (by simp;omega)];simp;rw [show min (k+1) es.length=k+1 by omega,show min k es.length=k by omega];congr 1;omega
end
section
attribute [local go_sem ↓] Go.wp_at_zero Go.wp_at_succ
theorem TlbOwn.drew {base:Nat} {w:World} {v:Value} {t:TlbM} (h:TlbOwn base w v t):TlbOwn base w.drew v t:=h
theorem tl (es:List EntM) (first:Nat):∀(left w k:Nat),k<left->(∀j,j<k->(es[first+(w+j)]?.getD cZ).valid=true)->(es[first+(w+k)]?.getD cZ).valid=false->mO es first w left=some (w+k)
 | 0,w,k,h,_,_=>by omega
 | left+1,w,0,h,h1,h2=>by
  rw [mO,if_pos (by simpa using h2)];rfl
 | left+1,w,k+1,h,h1,h2=>by
  rw [mO,if_neg (by have:=h1 0 (by omega);simp at this;rw [this];simp)];rw [tl es first left (w+1) k (by omega) (fun j hj=>by rw [show w+1+j=w+(j+1) by omega];exact h1 (j+1) (by omega)) (by rw [show w+1+k=w+(k+1) by omega];exact h2)];congr 1;omega
theorem tn (es:List EntM) (first:Nat):∀(left w:Nat),(∀j,j<left->(es[first+(w+j)]?.getD cZ).valid=true)->mO es first w left=none
 | 0,w,h=>rfl
 | left+1,w,h=>by
  rw [mO,if_neg (by have:=h 0 (by omega);simp at this;rw [this];simp)];exact tn es first left (w+1) (fun j hj=>by rw [show w+1+j=w+(j+1) by omega];exact h (j+1) (by omega))
end
section
attribute [local go_sem ↓] Go.wp_at_zero Go.wp_at_succ
theorem jM {v:World} {p:Nat} {T:TypeId} {a b c d e f g h i:Value} (hh:v.heap[p]?=some (.cells #[a,b,c,d,e,f,g,h,i] T (0,0))):
 v.cell? (AD p 0)=some a∧v.cell? (AD p 1)=some b∧v.cell? (AD p 2)=some c∧v.cell? (AD p 3)=some d∧v.cell? (AD p 4)=some e∧v.cell? (AD p 5)=some f∧v.cell? (AD p 6)=some g∧v.cell? (AD p 7)=some h∧v.cell? (AD p 8)=some i:=by
 simp [World.cell?,hh]
theorem JK {B:Nat} {a w:World} {g:Nat} (h:Below B a w) (hg:B<=g) (x y z u v t:Value):Below B a ((((((w.setCell (AD g 0) x).setCell (AD g 1) y).setCell (AD g 2) z).setCell (AD g 3) u).setCell (AD g 4) v).setCell (AD g 5) t):=
 (((kT h hg x y z).setCell (p:=(AD g 3)) hg u).setCell (p:=(AD g 4)) hg v).setCell (p:=(AD g 5)) hg t
theorem IE {B:Nat} {a w:World} {g:Nat} (h:Below B a w) (hg:B<=g) (x y z u v t p q r:Value):Below B a (((((((((w.setCell (AD g 0) x).setCell (AD g 1) y).setCell (AD g 2) z).setCell (AD g 3) u).setCell (AD g 4) v).setCell (AD g 5) t).setCell (AD g 6) p).setCell (AD g 7) q).setCell (AD g 8) r):=
 (((JK h hg x y z u v t).setCell (p:=(AD g 6)) hg p).setCell (p:=(AD g 7)) hg q).setCell (p:=(AD g 8)) hg r
theorem gb9 (w:World) (g:Nat) (x y z u v t p q r:Value):w.grownBy (((((((((w.setCell (AD g 0) x).setCell (AD g 1) y).setCell (AD g 2) z).setCell (AD g 3) u).setCell (AD g 4) v).setCell (AD g 5) t).setCell (AD g 6) p).setCell (AD g 7) q).setCell (AD g 8) r) (some g):=
 au (au (au (au (au (au (au (au (au (ak w (some g)) 0 x) 1 y) 2 z) 3 u) 4 v) 5 t) 6 p) 7 q) 8 r
theorem ve {v:World} {p:Nat} {T:TypeId} {cs:Array Value} (hh:v.heap[p]?=some (.cells cs T (0,0))) (i:Nat):v.frozen? (AD p i)=false:=by
 simp [World.frozen?,hh]
def KAt (w:World) (v:Value) (k:KM):Prop:=
 ∃a1 c1 a2 c2 a3 c3,v=.agg #[VI k.i.sets,VI k.i.ways,.slice a1 k.i.es.length c1,VI k.d.sets,VI k.d.ways,.slice a2 k.d.es.length c2,VI k.p.sets,VI k.p.ways,.slice a3 k.p.es.length c3]∧
  TlbAt w (.agg #[VI k.i.sets,VI k.i.ways,.slice a1 k.i.es.length c1]) k.i∧TlbAt w (.agg #[VI k.d.sets,VI k.d.ways,.slice a2 k.d.es.length c2]) k.d∧TlbAt w (.agg #[VI k.p.sets,VI k.p.ways,.slice a3 k.p.es.length c3]) k.p
theorem KAt.keep {w w':World} {v:Value} {k:KM} (h:KAt w v k) (hb:Bw w w'):KAt w' v k:=by
 obtain ⟨a1,c1,a2,c2,a3,c3,rfl,h1,h2,h3⟩:=h;exact ⟨a1,c1,a2,c2,a3,c3,rfl,h1.keep hb,h2.keep hb,h3.keep hb⟩
theorem JR (v:Value) (k:KM) (w:World) (h:KAt w v k):
 Calls Tryz.prog 88 #[v] w fun e w'=>e=.returned (.bool (cS k))∧Bw w w':=by
 obtain ⟨a1,c1,a2,c2,a3,c3,rfl,t1,t2,t3⟩:=h;obtain ⟨q1,hq1⟩:∃q,aY k.i false=q:=⟨_,rfl⟩;obtain ⟨q2,hq2⟩:∃q,aY k.d false=q:=⟨_,rfl⟩;obtain ⟨q3,hq3⟩:∃q,aY k.p true=q:=⟨_,rfl⟩;unfold cS;rw [hq1,hq2,hq3];have n1:=(Below.refl w.heap.size w).alloc nle (Obj.cells #[VI k.i.sets,VI k.i.ways,.slice a1 k.i.es.length c1,VI k.d.sets,VI k.d.ways,.slice a2 k.d.es.length c2,VI k.p.sets,VI k.p.ways,.slice a3 k.p.es.length c3] 41);have HV1:Hid (∀v,Bw w v->Calls Tryz.prog 123 #[.agg #[VI k.i.sets,VI k.i.ways,.slice a1 k.i.es.length c1],.bool false] v fun e w'=>e=.returned (.bool q1)∧Bw v w'):=fun v hv=>by
  have:=JQ _ _ false v (t1.keep hv);rw [hq1] at this;exact this
 have HV2:Hid (∀v,Bw w v->Calls Tryz.prog 123 #[.agg #[VI k.d.sets,VI k.d.ways,.slice a2 k.d.es.length c2],.bool false] v fun e w'=>e=.returned (.bool q2)∧Bw v w'):=fun v hv=>by
  have:=JQ _ _ false v (t2.keep hv);rw [hq2] at this;exact this
 have HV3:Hid (∀v,Bw w v->Calls Tryz.prog 123 #[.agg #[VI k.p.sets,VI k.p.ways,.slice a3 k.p.es.length c3],.bool true] v fun e w'=>e=.returned (.bool q3)∧Bw v w'):=fun v hv=>by
  have:=JQ _ _ true v (t3.keep hv);rw [hq3] at this;exact this
 have H1:Hid (∀v,Below (w.heap.size+1) (w.alloc (Obj.cells #[VI k.i.sets,VI k.i.ways,.slice a1 k.i.es.length c1,VI k.d.sets,VI k.d.ways,.slice a2 k.d.es.length c2,VI k.p.sets,VI k.p.ways,.slice a3 k.p.es.length c3] 41)) v->v.heap[w.heap.size]?=some (.cells #[VI k.i.sets,VI k.i.ways,.slice a1 k.i.es.length c1,VI k.d.sets,VI k.d.ways,.slice a2 k.d.es.length c2,VI k.p.sets,VI k.p.ways,.slice a3 k.p.es.length c3] 41 (0,0))):=
  fun v hv=>(hv.block w.heap.size (by omega)).trans (fE w _)
 clear t1 t2 t3 hq1 hq2 hq3;generalize k.i.sets=s1 at *;generalize k.i.ways=w1 at *;generalize k.i.es.length=m1 at *;generalize k.d.sets=s2 at *;generalize k.d.ways=w2 at *;generalize k.d.es.length=m2 at *;generalize k.p.sets=s3 at *;generalize k.p.ways=w3 at *;generalize k.p.es.length=m3 at *;cases q1
 ·go_enter Tryz.func88,Tryz.ntmps88;go_wp2_with fail;refine (HV1.out _ n1).mono ?_;rintro e v2 ⟨rfl,n2⟩;have n12:=bst n1 n2;go_wp2;go_ret;exact ⟨rfl,n12⟩
 ·go_enter Tryz.func88,Tryz.ntmps88;go_wp2_with fail;refine (HV1.out _ n1).mono ?_;rintro e v2 ⟨rfl,n2⟩;have n12:=bst n1 n2;have K2:=jM (H1.out v2 (n2.mono (by simp)));obtain ⟨x0,x1,x2,x3,x4,x5,x6,x7,x8⟩:=K2;cases q2
  ·go_wp2_with fail;refine (HV2.out _ n12).mono ?_;rintro e v3 ⟨rfl,n3⟩;have n13:=bst n12 n3;go_wp2;go_ret;exact ⟨rfl,n13⟩
  ·go_wp2_with fail;refine (HV2.out _ n12).mono ?_;rintro e v3 ⟨rfl,n3⟩;have n13:=bst n12 n3;have n23:=bst n2 n3;clear x0 x1 x2 x3 x4 x5 x6 x7 x8;have K3:=jM (H1.out v3 (n23.mono (by simp)));obtain ⟨x0,x1,x2,x3,x4,x5,x6,x7,x8⟩:=K3;go_wp2_with fail;refine (HV3.out _ n13).mono ?_;rintro e v4 ⟨rfl,n4⟩;have n14:=bst n13 n4;go_wp2;go_ret;exact ⟨by simp,n14⟩
def KOwn (base:Nat) (w:World) (v:Value) (k:KM):Prop:=
 ∃g1 c1 g2 c2 g3 c3,v=.agg #[VI k.i.sets,VI k.i.ways,SL g1 k.i.es.length c1,VI k.d.sets,VI k.d.ways,SL g2 k.d.es.length c2,VI k.p.sets,VI k.p.ways,SL g3 k.p.es.length c3]∧
  w.ownsRow base 127 6 (SL g1 k.i.es.length c1) k.i.es.length (cH k.i.es)∧w.ownsRow base 127 6 (SL g2 k.d.es.length c2) k.d.es.length (cH k.d.es)∧w.ownsRow base 127 6 (SL g3 k.p.es.length c3) k.p.es.length (cH k.p.es)
theorem wQ (v:Value) (k:KM) (w:World) (h:KAt w v k):
 Calls Tryz.prog 89 #[v] w fun e w'=>(∃x,e=.returned x∧KOwn w.heap.size w' x k)∧Bw w w':=by
 obtain ⟨a1,c1,a2,c2,a3,c3,rfl,t1,t2,t3⟩:=h;have HL1:=hid fun v (hv:Bw w v)=>oV _ _ v (t1.keep hv);have HL2:=hid fun v (hv:Bw w v)=>oV _ _ v (t2.keep hv);have HL3:=hid fun v (hv:Bw w v)=>oV _ _ v (t3.keep hv);clear t1 t2 t3;unfold TlbOwn at HL1 HL2 HL3;unfold KOwn;generalize k.i.es=e1 at *;generalize k.d.es=e2 at *;generalize k.p.es=e3 at *;generalize k.i.sets=s1 at *;generalize k.i.ways=w1 at *;generalize k.d.sets=s2 at *;generalize k.d.ways=w2 at *;generalize k.p.sets=s3 at *;generalize k.p.ways=w3 at *;obtain ⟨m1,hm1⟩:∃m,e1.length=m:=⟨_,rfl⟩;obtain ⟨m2,hm2⟩:∃m,e2.length=m:=⟨_,rfl⟩;obtain ⟨m3,hm3⟩:∃m,e3.length=m:=⟨_,rfl⟩;rw [hm1] at HL1 |-;rw [hm2] at HL2 |-;rw [hm3] at HL3 |-;clear hm1 hm2 hm3;generalize cH e1=q1 at *;generalize cH e2=q2 at *;generalize cH e3=q3 at *;obtain ⟨v1,Ev1,n1,H1,H2,l1⟩:=al2 w #[VI s1,VI w1,.slice a1 m1 c1,VI s2,VI w2,.slice a2 m2 c2,VI s3,VI w3,.slice a3 m3 c3] #[VI 0,VI 0,SN,VI 0,VI 0,SN,VI 0,VI 0,SN] 41 41;go_enter Tryz.func89,Tryz.ntmps89;go_wp2_with fail;rw [Ev1.out];clear Ev1;have HC:=hid fun v (hv:Bw v1 v)=>jM (ae H1.out hv (by omega));obtain ⟨b0,b1,b2,b3,b4,b5,b6,b7,b8⟩:=HC.out v1 brf;have i1:w.heap.size+1≠w.heap.size:=by omega
 have i2:w.heap.size≠w.heap.size+1:=by omega
 go_region_held3 (fun w'=>w'.cell? (AD w.heap.size 0)=some (VI s1)∧w'.cell? (AD w.heap.size 1)=some (VI w1)∧w'.cell? (AD w.heap.size 2)=some (.slice a1 m1 c1)∧w'.cell? (AD w.heap.size 3)=some (VI s2)∧w'.cell? (AD w.heap.size 4)=some (VI w2)∧w'.cell? (AD w.heap.size 5)=some (.slice a2 m2 c2)∧w'.cell? (AD w.heap.size 6)=some (VI s3)∧w'.cell? (AD w.heap.size 7)=some (VI w3)∧w'.cell? (AD w.heap.size 8)=some (.slice a3 m3 c3)) (go_keep)
  (first
   | (go_at_call_of 90 (Value.agg #[VI s1,VI w1,Value.slice a1 m1 c1]);refine (HL1.out _ (bst n1 (Below.refl v1.heap.size v1).drew)).mono ?_;rintro e y1 ⟨⟨x1,rfl,g1,d1,rfl,o1⟩,n1'⟩;have my1:Bw v1 y1:=bst (Below.refl v1.heap.size v1).drew n1';have kk:=HC.out y1 my1;obtain ⟨z10,z11,z12,z13,z14,z15,z16,z17,z18⟩:=kk;have OO1:Hid _:=o1;clear o1)
   | (go_at_call_of 90 (Value.agg #[VI s2,VI w2,Value.slice a2 m2 c2]);refine (HL2.out _ (bst n1 my1)).mono ?_;rintro e y2 ⟨⟨x2,rfl,g2,d2,rfl,o2⟩,n2'⟩;have my2:Bw v1 y2:=bst my1 n2';have kk:=HC.out y2 my2;obtain ⟨z20,z21,z22,z23,z24,z25,z26,z27,z28⟩:=kk;have OO2:Hid _:=o2;clear o2;have OP1:Hid _:=aq OO1.out n2';clear OO1)
   | (go_at_call_of 90 (Value.agg #[VI s3,VI w3,Value.slice a3 m3 c3]);refine (HL3.out _ (bst n1 my2)).mono ?_;rintro e y3 ⟨⟨x3,rfl,g3,d3,rfl,o3⟩,n3'⟩;have my3:Bw v1 y3:=bst my2 n3';have kk:=HC.out y3 my3;obtain ⟨z30,z31,z32,z33,z34,z35,z36,z37,z38⟩:=kk;have OO3:Hid _:=o3;clear o3;have OP1':Hid _:=aq OP1.out n3';have OP2:Hid _:=aq OO2.out n3';clear OP1 OO2;have F3:=ah H2 my3;have ff:=ve F3.out;have f0:=ff 0;have f1:=ff 1;have f2:=ff 2;have f3:=ff 3;have f4:=ff 4;have f5:=ff 5;have f6:=ff 6;have f7:=ff 7;have f8:=ff 8;have kk:=jM F3.out;obtain ⟨j0,j1,j2,j3,j4,j5,j6,j7,j8⟩:=kk;clear ff))
 go_wp2_with fail;have r1:=ltl l1 my1.size;have r2:=ltl l1 my2.size;exact bodyPost_ret (v:=.agg #[VI s1,VI w1,SL g1 m1 d1,VI s2,VI w2,SL g2 m2 d2,VI s3,VI w3,SL g3 m3 d3]) (by simp [results,Tryz.results89,go_sem,j0,j1,j2,j3,j4,j5,j6,j7,j8]) rfl
  ⟨⟨_,rfl,g1,d1,g2,d2,g3,d3,rfl,bW (aD OP1'.out (gb9 y3 (w.heap.size+1) _ _ _ _ _ _ _ _ _) l1) (Nat.le_of_lt (Nat.lt_trans (Nat.lt_succ_self _) l1)),bW (aD OP2.out (gb9 y3 (w.heap.size+1) _ _ _ _ _ _ _ _ _) r1) (by omega),bW (aD OO3.out (gb9 y3 (w.heap.size+1) _ _ _ _ _ _ _ _ _) r2) (by omega)⟩,IE (bst n1 my3) (by omega) _ _ _ _ _ _ _ _ _⟩
theorem KOwn.at {base:Nat} {w:World} {v:Value} {k:KM} (h:KOwn base w v k) (h1:gy k.i) (h2:gy k.d) (h3:gy k.p):KAt w v k:=by
 obtain ⟨g1,c1,g2,c2,g3,c3,rfl,o1,o2,o3⟩:=h;exact ⟨some (AD g1 0),c1,some (AD g2 0),c2,some (AD g3 0),c3,rfl,TlbOwn.at ⟨g1,c1,rfl,o1⟩ h1,TlbOwn.at ⟨g2,c2,rfl,o2⟩ h2,TlbOwn.at ⟨g3,c3,rfl,o3⟩ h3⟩
end
section
attribute [local go_sem ↓] Go.wp_at_zero Go.wp_at_succ
def Em (base:Nat) (w:World) (v:Value) (r:(Int × Int) × KM):Prop:=
 ∃s1 s2 s3,v=.agg #[VI r.1.1,VU r.1.2,VI r.2.i.sets,VI r.2.i.ways,s1,VI r.2.d.sets,VI r.2.d.ways,s2,VI r.2.p.sets,VI r.2.p.ways,s3]∧
  w.ownsRow base 127 6 s1 r.2.i.es.length (cH r.2.i.es)∧w.ownsRow base 127 6 s2 r.2.d.es.length (cH r.2.d.es)∧w.ownsRow base 127 6 s3 r.2.p.es.length (cH r.2.p.es)
end
theorem zl (a k:Nat):(a &&& 2^k != 0)=(a/2^k%2 == 1):=by
 have e:(a/2^k%2 == 1)=a.testBit k:=by rw [Nat.testBit_eq_decide_div_mod_eq];rfl
 rw [e];cases h:a.testBit k
 ·have:a &&& 2^k=0:=by
   apply Nat.eq_of_testBit_eq;intro i;rw [Nat.testBit_and,Nat.testBit_two_pow,Nat.zero_testBit];by_cases hi:k=i
   ·subst hi;simp [h]
   ·simp [hi]
  simp [this]
 ·have:a &&& 2^k≠0:=by
   intro h0;have:=congrArg (fun n=>n.testBit k) h0;simp [Nat.testBit_and,h] at this
  simpa using this
theorem lH (a m n:Nat):(a &&& (m ||| n) != 0)=((a &&& m != 0) || (a &&& n != 0)):=by
 rw [Nat.and_or_distrib_left];cases h:(a &&& m != 0) <;> cases h':(a &&& n != 0) <;> simp_all [Nat.or_eq_zero_iff]
def zm (x m:Int):Bool:=bits .and .u64 x m != 0
theorem ip (a m:Nat) (ha:a<18446744073709551616) (hm:m<18446744073709551616):zm a m=(a &&& m != 0):=by
 rw [zm,u64_and_nat a m ha hm];cases h:(a &&& m != 0)
 ·simp at h;simp [h]
 ·simp at h;simp;omega
theorem dS (k:Nat) (x p:Int) (hp:p=2^k) (hk:p<18446744073709551616) (h0:0<=x) (h1:x<=18446744073709551615):zm x p=bU x p:=by
 obtain ⟨a,rfl⟩:=Int.eq_ofNat_of_zero_le h0;have e:p=((2^k:Nat):Int):=by rw [hp];push_cast;rfl
 rw [e] at hk |-;rw [ip a (2^k) (by omega) (by omega),zl,bU];rw [show ((a:Int)/((2^k:Nat):Int)%2)=((a/2^k%2:Nat):Int) by omega];generalize a/2^k%2=t;rw [Bool.eq_iff_iff];simp only [beq_iff_eq];omega
theorem Fv (x:Int) (h0:0<=x) (h1:x<=18446744073709551615):zm x 14=(bU x 2 || bU x 4 || bU x 8):=by
 rw [<-dS 1 x 2 rfl (by omega) h0 h1,<-dS 2 x 4 rfl (by omega) h0 h1,<-dS 3 x 8 rfl (by omega) h0 h1];obtain ⟨a,rfl⟩:=Int.eq_ofNat_of_zero_le h0;rw [show (14:Int)=((14:Nat):Int) from rfl,show (2:Int)=((2:Nat):Int) from rfl,show (4:Int)=((4:Nat):Int) from rfl,show (8:Int)=((8:Nat):Int) from rfl];rw [ip a 14 (by omega) (by omega),ip a 2 (by omega) (by omega),ip a 4 (by omega) (by omega),ip a 8 (by omega) (by omega)];rw [<-lH,<-lH];rfl
theorem Fw (x:Int) (h0:0<=x) (h1:x<=18446744073709551615):zm x 208=(bU x 16 || bU x 64 || bU x 128):=by
 rw [<-dS 4 x 16 rfl (by omega) h0 h1,<-dS 6 x 64 rfl (by omega) h0 h1,<-dS 7 x 128 rfl (by omega) h0 h1];obtain ⟨a,rfl⟩:=Int.eq_ofNat_of_zero_le h0;rw [show (208:Int)=((208:Nat):Int) from rfl,show (16:Int)=((16:Nat):Int) from rfl,show (64:Int)=((64:Nat):Int) from rfl,show (128:Int)=((128:Nat):Int) from rfl];rw [ip a 208 (by omega) (by omega),ip a 16 (by omega) (by omega),ip a 64 (by omega) (by omega),ip a 128 (by omega) (by omega)];rw [<-lH,<-lH];rfl
theorem vj (k:Nat) (x m P:Int) (hP:P=2^k) (hm:m=P-1) (hk:m<18446744073709551616) (h0:0<=x) (h1:x<=18446744073709551615):bits .andNot .u64 x m=x/P*P:=by
 obtain ⟨a,rfl⟩:=Int.eq_ofNat_of_zero_le h0;have hp:1<=(2^k:Nat):=Nat.one_le_two_pow;have eP:P=((2^k:Nat):Int):=by rw [hP];push_cast;rfl
 have e:m=((2^k-1:Nat):Int):=by rw [hm,eP];omega
 rw [e] at hk |-;rw [eP,u64_andNot_nat a (2^k-1) (by omega) (by omega)];rw [show ((a:Int)/((2^k:Nat):Int)*((2^k:Nat):Int))=((a/2^k*2^k:Nat):Int) by push_cast;rfl];congr 1;apply Nat.eq_of_testBit_eq;intro i;have hk64:k<=64:=by
  rcases Nat.lt_or_ge 64 k with h | h
  ·have:2^65<=2^k:=Nat.pow_le_pow_right (by omega) h;omega
  ·exact h
 rw [Nat.testBit_and,Nat.testBit_mul_two_pow,Nat.testBit_div_two_pow];by_cases hi:k<=i
 ·by_cases hi':i<64
  ·have:(18446744073709551615-(2^k-1)).testBit i=true:=by
    rw [show 18446744073709551615-(2^k-1)=2^64-(2^k-1+1) by omega,Nat.testBit_two_pow_sub_succ (by omega),Nat.testBit_two_pow_sub_one];simp;omega
   rw [this];simp [hi,show i-k+k=i by omega]
  ·have:a.testBit i=false:=Nat.testBit_lt_two_pow (ltl (by omega:a<2^64) (Nat.pow_le_pow_right (by omega) (by omega)));simp [this,show i-k+k=i by omega]
 ·have:(18446744073709551615-(2^k-1)).testBit i=false:=by
   rw [show 18446744073709551615-(2^k-1)=2^64-(2^k-1+1) by omega,Nat.testBit_two_pow_sub_succ (by omega),Nat.testBit_two_pow_sub_one];simp;omega
  simp [this,hi]
theorem py (k:Nat) (x y m P:Int) (hP:P=2^k) (hm:m=P-1) (hk:m<18446744073709551616) (h0:0<=x) (h1:x<=18446744073709551615) (g0:0<=y) (g1:y<=18446744073709551615):
 bits .or .u64 (bits .andNot .u64 x m) (bits .and .u64 y m)=x/P*P+y%P:=by
 have hp:1<=P:=by rw [hP];exact Int.pow_pos (by omega:(0:Int)<2)
 rw [vj k x m P hP hm hk h0 h1,eX k y m (by rw [hm,hP]) hk g0 g1,<-hP];have a1:0<=y%P:=Int.emod_nonneg _ (by omega);have a2:y%P<P:=Int.emod_lt_of_pos _ (by omega);have a3:0<=x/P:=Int.ediv_nonneg h0 (by omega);have a4:x/P*P<=x:=Int.ediv_mul_le _ (by omega);have a5:0<=x/P*P:=Int.mul_nonneg a3 (by omega);have hc:bits .or .u64 (x/P*P) (y%P)=bits .or .u64 (y%P) (x/P*P):=by
  rw [u64_or _ _ a5 (by omega) a1 (by omega),u64_or _ _ a1 (by omega) a5 (by omega),Nat.or_comm]
 rw [hc,fo k P (y%P) (x/P) hP a1 a2 a3 (by omega) (by omega)];omega
theorem dI (n m:Int) (w:World) (h:(n=0∧m=0)∨(n=3∧m=7)∨(n=6∧m=63)∨(n=9∧m=511)∨(n=12∧m=4095)∨(n=44∧m=17592186044415)∨(n=50∧m=1125899906842623)∨(n=15∧m=32767)∨(n=16∧m=65535)):
 Calls Tryz.prog 118 #[VI n] w fun e w'=>e=.returned (VU m)∧w'=w:=by
 rcases h with ⟨rfl,rfl⟩ | ⟨rfl,rfl⟩ | ⟨rfl,rfl⟩ | ⟨rfl,rfl⟩ | ⟨rfl,rfl⟩ | ⟨rfl,rfl⟩ | ⟨rfl,rfl⟩ | ⟨rfl,rfl⟩ | ⟨rfl,rfl⟩;all_goals
  go_enter Tryz.func118,Tryz.ntmps118;go_wp2;go_ret;exact ⟨rfl,rfl⟩
theorem dL (x m:Int) (w:World):
 Calls Tryz.prog 164 #[VU x,VU m] w fun e w'=>e=.returned (.bool (zm x m))∧w'=w:=by
 go_enter Tryz.func164,Tryz.ntmps164;go_wp2;go_ret;exact ⟨rfl,rfl⟩
theorem ij (x:Int) (w:World) (h0:0<=x) (h1:x<=18446744073709551615):
 Calls Tryz.prog 145 #[VU x] w fun e w'=>e=.returned (.bool (de x))∧w'=w:=by
 have hm:x/16384%1125899906842624=x/16384:=Int.emod_eq_of_lt (Int.ediv_nonneg h0 (by omega)) (by omega);rw [de,hm];clear hm;by_cases ht:x/16384=0
 ·have ht':(x/16384 == 0)=true:=by simp [ht]
  clear ht;go_enter Tryz.func145,Tryz.ntmps145;go_wp2;go_ret;exact ⟨by simp [ht'],rfl⟩
 ·have ht':(x/16384 == 0)=false:=by simpa using ht
  clear ht;go_enter Tryz.func145,Tryz.ntmps145;go_wp2_with (go_at_call 118;refine (dI 50 1125899906842623 _ (by omega)).mono ?_;rintro e w' ⟨rfl,rfl⟩);go_ret;exact ⟨by simp [ht'],rfl⟩
theorem wH (x:Int) (w:World) (h0:0<=x) (h1:x<=18446744073709551615):
 Calls Tryz.prog 212 #[VU x] w fun e w'=>e=.returned (VU (dK x))∧w'=w:=by
 have H:=hid (eX 44 (x/1024) 17592186044415 rfl (by omega) (by omega) (by omega));go_enter Tryz.func212,Tryz.ntmps212;go_wp2_with (go_at_call 118;refine (dI 44 17592186044415 _ (by omega)).mono ?_;rintro e w' ⟨rfl,rfl⟩);go_ret;exact ⟨dY H.out,rfl⟩
theorem wJ (x:Int) (w:World) (h0:0<=x) (h1:x<=18446744073709551615):
 Calls Tryz.prog 219 #[VU x] w fun e w'=>e=.returned (VU (x/18014398509481984%1024))∧w'=w:=by
 have H:Hid (x/18014398509481984=x/18014398509481984%1024):=show _=_ by omega
 go_enter Tryz.func219,Tryz.ntmps219;go_wp2;go_ret;exact ⟨dY H.out,rfl⟩
def ti (x:Int):Bool:=bU x 1 && (x/18014398509481984%1024 == 0) && !(bU x 4 && !bU x 2)
theorem kO (x:Int) (w:World) (h0:0<=x) (h1:x<=18446744073709551615):
 Calls Tryz.prog 216 #[VU x] w fun e w'=>e=.returned (.bool (ti x))∧w'=w:=by
 have HV:=hid (dS 0 x 1 rfl (by omega) h0 h1);have HR:=hid (dS 1 x 2 rfl (by omega) h0 h1);have HW:=hid (dS 2 x 4 rfl (by omega) h0 h1);cases hw:bU x 4 <;> cases hr:bU x 2 <;> cases hv:bU x 1;all_goals
  go_enter Tryz.func216,Tryz.ntmps216;go_wp2_with (first
   | (go_at_call 164;refine (dL x _ _).mono ?_;rintro e w' ⟨rfl,rfl⟩;first | rw [HW.out,hw] | rw [HR.out,hr] | rw [HV.out,hv])
   | (go_at_call 219;refine (wJ x _ h0 h1).mono ?_;rintro e w' ⟨rfl,rfl⟩))
  all_goals
   go_ret;exact ⟨aL (by simp [ti,hw,hr,hv];try assumption),rfl⟩
theorem tk (x level:Int) (w:World) (h0:0<=x) (h1:x<=18446744073709551615) (hl:level=0∨level=1∨level=2):
 Calls Tryz.prog 217 #[VU x,VI level] w fun e w'=>e=.returned (.bool (dK x%JN level == 0))∧w'=w:=by
 have hpp:0<=dK x∧dK x<17592186044416:=⟨Int.emod_nonneg _ (by omega),Int.emod_lt_of_pos _ (by omega)⟩;have HP:∀w,Hid (Calls Tryz.prog 212 #[VU x] w fun e w'=>e=.returned (VU (dK x))∧w'=w):=fun w=>wH x w h0 h1;generalize dK x=p at *;rcases hl with rfl | rfl | rfl
 ·have H:Hid ((bits .and .u64 p 0 == 0)=(p%JN 0 == 0)):=by
   show _=_;rw [eX 0 p 0 rfl (by omega) hpp.1 (by omega)];rfl
  go_enter Tryz.func217,Tryz.ntmps217;go_wp2_with (first
   | (go_at_call 212;refine ((HP _).out).mono ?_;rintro e w' ⟨rfl,rfl⟩)
   | (go_at_call 118;refine (dI 0 0 _ (by omega)).mono ?_;rintro e w' ⟨rfl,rfl⟩))
  go_ret;exact ⟨aL H.out,rfl⟩
 ·have H:Hid ((bits .and .u64 p 7 == 0)=(p%JN 1 == 0)):=by
   show _=_;rw [eX 3 p 7 rfl (by omega) hpp.1 (by omega)];rfl
  go_enter Tryz.func217,Tryz.ntmps217;go_wp2_with (first
   | (go_at_call 212;refine ((HP _).out).mono ?_;rintro e w' ⟨rfl,rfl⟩)
   | (go_at_call 118;refine (dI 3 7 _ (by omega)).mono ?_;rintro e w' ⟨rfl,rfl⟩))
  go_ret;exact ⟨aL H.out,rfl⟩
 ·have H:Hid ((bits .and .u64 p 63 == 0)=(p%JN 2 == 0)):=by
   show _=_;rw [eX 6 p 63 rfl (by omega) hpp.1 (by omega)];rfl
  go_enter Tryz.func217,Tryz.ntmps217;go_wp2_with (first
   | (go_at_call 212;refine ((HP _).out).mono ?_;rintro e w' ⟨rfl,rfl⟩)
   | (go_at_call 118;refine (dI 6 63 _ (by omega)).mono ?_;rintro e w' ⟨rfl,rfl⟩))
  go_ret;exact ⟨aL H.out,rfl⟩
theorem dN (l:Int) (w:World):
 Calls Tryz.prog 162 #[VI l] w fun e w'=>e=.returned (.bool (decide (0<=l∧l<=2)))∧w'=w:=by
 by_cases h:0<=l
 ·go_enter Tryz.func162,Tryz.ntmps162;go_wp2;go_ret;exact ⟨aL (by simp [h]),rfl⟩
 ·go_enter Tryz.func162,Tryz.ntmps162;go_wp2;go_ret;exact ⟨aL (by simp;omega),rfl⟩
theorem pW (x level:Int) (w:World) (h0:0<=x) (h1:x<=18446744073709551615):
 Calls Tryz.prog 211 #[VU x,VI level] w fun e w'=>e=.returned (VI (aW x level))∧w'=w:=by
 by_cases hlev:0<=level∧level<=2
 ·have hk:decide (0<=level∧level<=2)=true:=by simpa using hlev
  have HK:=hid hk;have hl:level=0∨level=1∨level=2:=by omega
  clear hk hlev;have HR:=hid (Fv x h0 h1);have HU:=hid (Fw x h0 h1);cases hs:ti x
  ·have HE:Hid (aW x level=0):=by
    show _=_;simp only [aW];rw [if_pos];simp only [ti] at hs;cases hv:bU x 1
    ·simp
    ·rw [hv] at hs;by_cases hb:0<x/18014398509481984%1024
     ·simp [hb]
     ·have hb':x/18014398509481984%1024=0:=by omega
      rw [hb'] at hs |-;simp at hs;simp [hs]
   go_enter Tryz.func211,Tryz.ntmps211;go_wp2_with (first
    | (go_at_call 162;refine (dN level _).mono ?_;rintro e w' ⟨rfl,rfl⟩;rw [HK.out])
    | (go_at_call 216;refine (kO x _ h0 h1).mono ?_;rintro e w' ⟨rfl,rfl⟩;rw [hs]))
   go_ret;exact ⟨cL HE.out.symm,rfl⟩
  ·have hn:¬(level<0∨2<level∨bU x 1=false∨0<x/18014398509481984%1024∨(bU x 4=true∧bU x 2=false)):=by
    simp only [ti,Bool.and_eq_true,beq_iff_eq,Bool.not_eq_true',Bool.and_eq_false_iff,Bool.not_eq_false'] at hs;obtain ⟨⟨a1,a2⟩,a3⟩:=hs;rw [a1,a2];rcases a3 with a3 | a3
    ·simp [a3];omega
    ·simp [a3];omega
   have HE:Hid (aW x level=if bU x 2=false∧bU x 4=false∧bU x 8=false then (if level=0∨bU x 16=true∨bU x 64=true∨bU x 128=true then 0 else 1) else if 0<dK x%JN level then 0 else 2):=by
    show _=_;rw [aW,if_neg hn]
   clear hn;cases hr:(bU x 2 || bU x 4 || bU x 8)
   ·simp only [Bool.or_eq_false_iff] at hr;have HE2:Hid (aW x level=if level=0∨bU x 16=true∨bU x 64=true∨bU x 128=true then 0 else 1):=by
     show _=_;rw [HE.out,if_pos ⟨hr.1.1,hr.1.2,hr.2⟩]
    clear HE;have HR':Hid (zm x 14=false):=by show _=_;rw [HR.out,hr.1.1,hr.1.2,hr.2];rfl
    clear HR hr;by_cases hz:level=0
    ·subst hz;go_enter Tryz.func211,Tryz.ntmps211;go_wp2_with (first
      | (go_at_call 162;refine (dN 0 _).mono ?_;rintro e w' ⟨rfl,rfl⟩;rw [HK.out])
      | (go_at_call 216;refine (kO x _ h0 h1).mono ?_;rintro e w' ⟨rfl,rfl⟩;rw [hs])
      | (go_at_call 164;refine (dL x _ _).mono ?_;rintro e w' ⟨rfl,rfl⟩;rw [HR'.out]))
     go_ret;exact ⟨cL (by rw [HE2.out];simp),rfl⟩
    ·have hz':(level == 0)=false:=by simpa using hz
     cases hu:(bU x 16 || bU x 64 || bU x 128)
     ·have HE3:Hid (aW x level=1):=by
       show _=_;simp only [Bool.or_eq_false_iff] at hu;rw [HE2.out,hu.1.1,hu.1.2,hu.2];simp [hz]
      go_enter Tryz.func211,Tryz.ntmps211;go_wp2_with (first
       | (go_at_call 162;refine (dN level _).mono ?_;rintro e w' ⟨rfl,rfl⟩;rw [HK.out])
       | (go_at_call 216;refine (kO x _ h0 h1).mono ?_;rintro e w' ⟨rfl,rfl⟩;rw [hs])
       | (go_at_call 164;refine (dL x _ _).mono ?_;rintro e w' ⟨rfl,rfl⟩;first | rw [HR'.out] | rw [HU.out,hu]))
      go_ret;exact ⟨cL HE3.out.symm,rfl⟩
     ·have HE3:Hid (aW x level=0):=by
       show _=_;simp only [Bool.or_eq_true] at hu;rw [HE2.out,if_pos];rcases hu with (hu | hu) | hu <;> simp [hu]
      go_enter Tryz.func211,Tryz.ntmps211;go_wp2_with (first
       | (go_at_call 162;refine (dN level _).mono ?_;rintro e w' ⟨rfl,rfl⟩;rw [HK.out])
       | (go_at_call 216;refine (kO x _ h0 h1).mono ?_;rintro e w' ⟨rfl,rfl⟩;rw [hs])
       | (go_at_call 164;refine (dL x _ _).mono ?_;rintro e w' ⟨rfl,rfl⟩;first | rw [HR'.out] | rw [HU.out,hu]))
      go_ret;exact ⟨cL HE3.out.symm,rfl⟩
   ·have HR':Hid (zm x 14=true):=by show _=_;rw [HR.out,hr]
    have HE2:Hid (aW x level=if 0<dK x%JN level then 0 else 2):=by
     show _=_;rw [HE.out,if_neg];rintro ⟨q1,q2,q3⟩;rw [q1,q2,q3] at hr;cases hr
    clear HE HR hr;have hnn:0<=dK x%JN level:=by
     apply Int.emod_nonneg;rcases hl with rfl | rfl | rfl <;> decide
    cases ha:(dK x%JN level == 0)
    ·have HE3:Hid (aW x level=0):=by
      show _=_;have:dK x%JN level≠0:=by simpa using ha
      rw [HE2.out,if_pos (by omega)]
     clear hnn;go_enter Tryz.func211,Tryz.ntmps211;go_wp2_with (first
      | (go_at_call 162;refine (dN level _).mono ?_;rintro e w' ⟨rfl,rfl⟩;rw [HK.out])
      | (go_at_call 216;refine (kO x _ h0 h1).mono ?_;rintro e w' ⟨rfl,rfl⟩;rw [hs])
      | (go_at_call 164;refine (dL x _ _).mono ?_;rintro e w' ⟨rfl,rfl⟩;rw [HR'.out])
      | (go_at_call 217;refine (tk x level _ h0 h1 hl).mono ?_;rintro e w' ⟨rfl,rfl⟩;rw [ha]))
     go_ret;exact ⟨cL HE3.out.symm,rfl⟩
    ·have HE3:Hid (aW x level=2):=by
      show _=_;have:dK x%JN level=0:=by simpa using ha
      rw [HE2.out,if_neg (by omega)]
     clear hnn;go_enter Tryz.func211,Tryz.ntmps211;go_wp2_with (first
      | (go_at_call 162;refine (dN level _).mono ?_;rintro e w' ⟨rfl,rfl⟩;rw [HK.out])
      | (go_at_call 216;refine (kO x _ h0 h1).mono ?_;rintro e w' ⟨rfl,rfl⟩;rw [hs])
      | (go_at_call 164;refine (dL x _ _).mono ?_;rintro e w' ⟨rfl,rfl⟩;rw [HR'.out])
      | (go_at_call 217;refine (tk x level _ h0 h1 hl).mono ?_;rintro e w' ⟨rfl,rfl⟩;rw [ha]))
     go_ret;exact ⟨cL HE3.out.symm,rfl⟩
 ·have HK:Hid (decide (0<=level∧level<=2)=false):=by show _=_;simpa using hlev
  have HE:Hid (aW x level=0):=by
   show _=_;rw [aW,if_pos (by omega)]
  clear hlev;go_enter Tryz.func211,Tryz.ntmps211;go_wp2_with (go_at_call 162;refine (dN level _).mono ?_;rintro e w' ⟨rfl,rfl⟩;rw [HK.out]);go_ret;exact ⟨cL HE.out.symm,rfl⟩
end Go.Proofs.YtkenjknmfhoppaaGreat
