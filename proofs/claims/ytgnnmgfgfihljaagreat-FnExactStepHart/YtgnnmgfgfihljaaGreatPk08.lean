import Derived.Test.YtgnnmgfgfihljaaGreatPk07
namespace Go.Proofs.YtgnnmgfgfihljaaGreat
open Go.RowKit
set_option linter.unusedVariables false
set_option maxHeartbeats 6400000
set_option maxRecDepth 20000
theorem TlbAt.row {w:World} {a:Option Addr} {c:Nat} {t:TlbM} (h:TlbAt w (.agg #[.int .i64 t.sets,.int .i64 t.ways,.slice a t.es.length c]) t):RowC w a t.es.length 6 (az t.es)∧t.es.length<=1048576:=by
 obtain ⟨a',c',he,hr,_,_,_,hl,_⟩:=h;simp at he;obtain ⟨rfl,rfl⟩:=he;exact ⟨hr,hl⟩
theorem ye {v:World} {p:Nat} {T:TypeId} {a b c d e f g h i x y z:Value} (hh:v.heap[p]?=some (.cells #[a,b,c,d,e,f,g,h,i] T (0,0))):(((v.setCell ⟨p,0,none⟩ x).setCell ⟨p,1,none⟩ y).setCell ⟨p,2,none⟩ z).heap[p]?=some (.cells #[x,y,z,d,e,f,g,h,i] T (0,0)):=by
 simp [World.setCell,Array.getElem?_modify,hh]
theorem yf {v:World} {p:Nat} {T:TypeId} {a b c d e f g h i x y z:Value} (hh:v.heap[p]?=some (.cells #[a,b,c,d,e,f,g,h,i] T (0,0))):(((v.setCell ⟨p,3,none⟩ x).setCell ⟨p,4,none⟩ y).setCell ⟨p,5,none⟩ z).heap[p]?=some (.cells #[a,b,c,x,y,z,g,h,i] T (0,0)):=by
 simp [World.setCell,Array.getElem?_modify,hh]
theorem sU (k:KM) (a1 a2 a3:Option Addr) (c1 c2 c3:Nat) (w:World) (r1:RowC w a1 k.i.es.length 6 (az k.i.es)) (r2:RowC w a2 k.d.es.length 6 (az k.d.es)) (r3:RowC w a3 k.p.es.length 6 (az k.p.es)) (l1:k.i.es.length<=1048576) (l2:k.d.es.length<=1048576) (l3:k.p.es.length<=1048576):
 Calls Tryz.prog 28 #[.agg #[.int .i64 k.i.sets,.int .i64 k.i.ways,.slice a1 k.i.es.length c1,.int .i64 k.d.sets,.int .i64 k.d.ways,.slice a2 k.d.es.length c2,.int .i64 k.p.sets,.int .i64 k.p.ways,.slice a3 k.p.es.length c3]] w fun e w'=>(∃x,e=.returned x∧zC w.heap.size w' x k)∧Below w.heap.size w w':=by
 have HT1:=hid fun u (hu:Below w.heap.size w u)=>nf k.i.sets k.i.ways a1 k.i.es.length c1 k.i.es u (r1.keep hu) rfl l1;have HT2:=hid fun u (hu:Below w.heap.size w u)=>nf k.d.sets k.d.ways a2 k.d.es.length c2 k.d.es u (r2.keep hu) rfl l2;have HT3:=hid fun u (hu:Below w.heap.size w u)=>nf k.p.sets k.p.ways a3 k.p.es.length c3 k.p.es u (r3.keep hu) rfl l3;clear r1 r2 r3;have n1:=(((Below.refl w.heap.size w).alloc nle (Obj.cells #[.int .i64 k.i.sets,.int .i64 k.i.ways,.slice a1 k.i.es.length c1,.int .i64 k.d.sets,.int .i64 k.d.ways,.slice a2 k.d.es.length c2,.int .i64 k.p.sets,.int .i64 k.p.ways,.slice a3 k.p.es.length c3] 29)).alloc (by simp) (Obj.cells #[.int .i64 0,.int .i64 0,.slice none 0 0,.int .i64 0,.int .i64 0,.slice none 0 0,.int .i64 0,.int .i64 0,.slice none 0 0] 37)).alloc (by simp;omega) (Obj.cells #[.int .i64 0,.int .i64 0,.slice none 0 0,.int .i64 0,.int .i64 0,.slice none 0 0,.int .i64 0,.int .i64 0,.slice none 0 0] 37);have H1:Hid ((((w.alloc (Obj.cells #[.int .i64 k.i.sets,.int .i64 k.i.ways,.slice a1 k.i.es.length c1,.int .i64 k.d.sets,.int .i64 k.d.ways,.slice a2 k.d.es.length c2,.int .i64 k.p.sets,.int .i64 k.p.ways,.slice a3 k.p.es.length c3] 29)).alloc (Obj.cells #[.int .i64 0,.int .i64 0,.slice none 0 0,.int .i64 0,.int .i64 0,.slice none 0 0,.int .i64 0,.int .i64 0,.slice none 0 0] 37)).alloc (Obj.cells #[.int .i64 0,.int .i64 0,.slice none 0 0,.int .i64 0,.int .i64 0,.slice none 0 0,.int .i64 0,.int .i64 0,.slice none 0 0] 37)).heap[w.heap.size]?=some (.cells #[.int .i64 k.i.sets,.int .i64 k.i.ways,.slice a1 k.i.es.length c1,.int .i64 k.d.sets,.int .i64 k.d.ways,.slice a2 k.d.es.length c2,.int .i64 k.p.sets,.int .i64 k.p.ways,.slice a3 k.p.es.length c3] 29 (0,0))):=by
  show _=_;rw [heap_alloc_old _ _ (by simp;omega),heap_alloc_old _ _ (by simp)];exact heap_alloc_new w _
 have H2:Hid ((((w.alloc (Obj.cells #[.int .i64 k.i.sets,.int .i64 k.i.ways,.slice a1 k.i.es.length c1,.int .i64 k.d.sets,.int .i64 k.d.ways,.slice a2 k.d.es.length c2,.int .i64 k.p.sets,.int .i64 k.p.ways,.slice a3 k.p.es.length c3] 29)).alloc (Obj.cells #[.int .i64 0,.int .i64 0,.slice none 0 0,.int .i64 0,.int .i64 0,.slice none 0 0,.int .i64 0,.int .i64 0,.slice none 0 0] 37)).alloc (Obj.cells #[.int .i64 0,.int .i64 0,.slice none 0 0,.int .i64 0,.int .i64 0,.slice none 0 0,.int .i64 0,.int .i64 0,.slice none 0 0] 37)).heap[w.heap.size+1]?=some (.cells #[.int .i64 0,.int .i64 0,.slice none 0 0,.int .i64 0,.int .i64 0,.slice none 0 0,.int .i64 0,.int .i64 0,.slice none 0 0] 37 (0,0))):=by
  show _=_;rw [heap_alloc_old _ _ (by simp)];have:=heap_alloc_new (w.alloc (Obj.cells #[.int .i64 k.i.sets,.int .i64 k.i.ways,.slice a1 k.i.es.length c1,.int .i64 k.d.sets,.int .i64 k.d.ways,.slice a2 k.d.es.length c2,.int .i64 k.p.sets,.int .i64 k.p.ways,.slice a3 k.p.es.length c3] 29)) (Obj.cells #[.int .i64 0,.int .i64 0,.slice none 0 0,.int .i64 0,.int .i64 0,.slice none 0 0,.int .i64 0,.int .i64 0,.slice none 0 0] 37);simp only [World.size_alloc] at this;exact this
 have H3:Hid ((((w.alloc (Obj.cells #[.int .i64 k.i.sets,.int .i64 k.i.ways,.slice a1 k.i.es.length c1,.int .i64 k.d.sets,.int .i64 k.d.ways,.slice a2 k.d.es.length c2,.int .i64 k.p.sets,.int .i64 k.p.ways,.slice a3 k.p.es.length c3] 29)).alloc (Obj.cells #[.int .i64 0,.int .i64 0,.slice none 0 0,.int .i64 0,.int .i64 0,.slice none 0 0,.int .i64 0,.int .i64 0,.slice none 0 0] 37)).alloc (Obj.cells #[.int .i64 0,.int .i64 0,.slice none 0 0,.int .i64 0,.int .i64 0,.slice none 0 0,.int .i64 0,.int .i64 0,.slice none 0 0] 37)).heap[w.heap.size+1+1]?=some (.cells #[.int .i64 0,.int .i64 0,.slice none 0 0,.int .i64 0,.int .i64 0,.slice none 0 0,.int .i64 0,.int .i64 0,.slice none 0 0] 37 (0,0))):=by
  have:=heap_alloc_new ((w.alloc (Obj.cells #[.int .i64 k.i.sets,.int .i64 k.i.ways,.slice a1 k.i.es.length c1,.int .i64 k.d.sets,.int .i64 k.d.ways,.slice a2 k.d.es.length c2,.int .i64 k.p.sets,.int .i64 k.p.ways,.slice a3 k.p.es.length c3] 29)).alloc (Obj.cells #[.int .i64 0,.int .i64 0,.slice none 0 0,.int .i64 0,.int .i64 0,.slice none 0 0,.int .i64 0,.int .i64 0,.slice none 0 0] 37)) (Obj.cells #[.int .i64 0,.int .i64 0,.slice none 0 0,.int .i64 0,.int .i64 0,.slice none 0 0,.int .i64 0,.int .i64 0,.slice none 0 0] 37);simp only [World.size_alloc] at this;exact this
 have l1:w.heap.size+1+1<(((w.alloc (Obj.cells #[.int .i64 k.i.sets,.int .i64 k.i.ways,.slice a1 k.i.es.length c1,.int .i64 k.d.sets,.int .i64 k.d.ways,.slice a2 k.d.es.length c2,.int .i64 k.p.sets,.int .i64 k.p.ways,.slice a3 k.p.es.length c3] 29)).alloc (Obj.cells #[.int .i64 0,.int .i64 0,.slice none 0 0,.int .i64 0,.int .i64 0,.slice none 0 0,.int .i64 0,.int .i64 0,.slice none 0 0] 37)).alloc (Obj.cells #[.int .i64 0,.int .i64 0,.slice none 0 0,.int .i64 0,.int .i64 0,.slice none 0 0,.int .i64 0,.int .i64 0,.slice none 0 0] 37)).heap.size:=by simp
 go_enter Tryz.func28,Tryz.ntmps28;go_wp2_with fail;generalize ((w.alloc (Obj.cells #[.int .i64 k.i.sets,.int .i64 k.i.ways,.slice a1 k.i.es.length c1,.int .i64 k.d.sets,.int .i64 k.d.ways,.slice a2 k.d.es.length c2,.int .i64 k.p.sets,.int .i64 k.p.ways,.slice a3 k.p.es.length c3] 29)).alloc (Obj.cells #[.int .i64 0,.int .i64 0,.slice none 0 0,.int .i64 0,.int .i64 0,.slice none 0 0,.int .i64 0,.int .i64 0,.slice none 0 0] 37)).alloc (Obj.cells #[.int .i64 0,.int .i64 0,.slice none 0 0,.int .i64 0,.int .i64 0,.slice none 0 0,.int .i64 0,.int .i64 0,.slice none 0 0] 37)=u1 at n1 H1 H2 H3 l1 |-;refine (HT1.out u1 n1).mono ?_;rintro e v1 ⟨⟨x,rfl,g1,e1,rfl,o1⟩,m1⟩;have lg1:=(bC o1).2;simp only at lg1;have lm1:=m1.size;have P1:=ab H1 m1;have P2:=ab H2 m1;have P3:=ab H3 m1;obtain ⟨b0,b1,b2,b3,b4,b5,b6,b7,b8⟩:=aP P1.out;obtain ⟨q0,q1,q2,q3,q4,q5,q6,q7,q8⟩:=aP P3.out;have ff:=gj P3.out;have f0:=ff 0;have f1:=ff 1;have f2:=ff 2;clear ff;have ls:w.heap.size<v1.heap.size:=by omega
 have lp:w.heap.size+1+1<v1.heap.size:=by omega
 have O1:=hid o1;clear o1;have ne1:w.heap.size≠w.heap.size+1+1:=by omega
 go_wp2_with fail;have gS:=ak (ak (ak (au v1 (some (w.heap.size+1+1))) 0 (.int .i64 k.i.sets)) 1 (.int .i64 k.i.ways)) 2 (.slice (some ⟨g1,0,none⟩) k.i.es.length e1);have n2:=(bst n1 m1).grown gS (by omega) (fun q hq=>by cases hq;omega);clear H1 H2 H3;have H1:=hid (aQ P1.out gS (by omega));have H2:=hid (aQ P2.out gS (by omega));have H3:Hid ((((v1.setCell ⟨w.heap.size+1+1,0,none⟩ (.int .i64 k.i.sets)).setCell ⟨w.heap.size+1+1,1,none⟩ (.int .i64 k.i.ways)).setCell ⟨w.heap.size+1+1,2,none⟩ (.slice (some ⟨g1,0,none⟩) k.i.es.length e1)).heap[w.heap.size+1+1]?=_):=ye P3.out;replace O1:=hid (aN O1.out gS (by omega));have lt1:=gS.size;generalize (((v1.setCell ⟨w.heap.size+1+1,0,none⟩ (.int .i64 k.i.sets)).setCell ⟨w.heap.size+1+1,1,none⟩ (.int .i64 k.i.ways)).setCell ⟨w.heap.size+1+1,2,none⟩ (.slice (some ⟨g1,0,none⟩) k.i.es.length e1))=u2 at n2 H1 H2 H3 lt1 O1 |-;clear P1 P2 P3 b0 b1 b2 b3 b4 b5 b6 b7 b8 q0 q1 q2 q3 q4 q5 q6 q7 q8 f0 f1 f2 gS ls lp ne1;refine (HT2.out u2 n2).mono ?_;rintro e v2 ⟨⟨x,rfl,g2,e2,rfl,o2⟩,m2⟩;have lg2:=(bC o2).2;simp only at lg2;have lm2:=m2.size;have P1:=ab H1 m2;have P2:=ab H2 m2;have P3:=ab H3 m2;obtain ⟨b0,b1,b2,b3,b4,b5,b6,b7,b8⟩:=aP P1.out;obtain ⟨q0,q1,q2,q3,q4,q5,q6,q7,q8⟩:=aP P3.out;have ff:=gj P3.out;have f0:=ff 3;have f1:=ff 4;have f2:=ff 5;clear ff;have ls:w.heap.size<v2.heap.size:=by omega
 have lp:w.heap.size+1+1<v2.heap.size:=by omega
 have O2:=hid o2;replace O1:=hid (ag O1.out m2);clear o2;have ne1:w.heap.size≠w.heap.size+1+1:=by omega
 go_wp2_with fail;have gS:=ak (ak (ak (au v2 (some (w.heap.size+1+1))) 3 (.int .i64 k.d.sets)) 4 (.int .i64 k.d.ways)) 5 (.slice (some ⟨g2,0,none⟩) k.d.es.length e2);have n3:=(bst n2 m2).grown gS (by omega) (fun q hq=>by cases hq;omega);clear H1 H2 H3;have H1:=hid (aQ P1.out gS (by omega));have H2:=hid (aQ P2.out gS (by omega));have H3:Hid ((((v2.setCell ⟨w.heap.size+1+1,3,none⟩ (.int .i64 k.d.sets)).setCell ⟨w.heap.size+1+1,4,none⟩ (.int .i64 k.d.ways)).setCell ⟨w.heap.size+1+1,5,none⟩ (.slice (some ⟨g2,0,none⟩) k.d.es.length e2)).heap[w.heap.size+1+1]?=_):=yf P3.out;replace O1:=hid (aN O1.out gS (by omega));replace O2:=hid (aN O2.out gS (by omega));have lt2:=gS.size;generalize (((v2.setCell ⟨w.heap.size+1+1,3,none⟩ (.int .i64 k.d.sets)).setCell ⟨w.heap.size+1+1,4,none⟩ (.int .i64 k.d.ways)).setCell ⟨w.heap.size+1+1,5,none⟩ (.slice (some ⟨g2,0,none⟩) k.d.es.length e2))=u3 at n3 H1 H2 H3 lt2 O1 O2 |-;clear P1 P2 P3 b0 b1 b2 b3 b4 b5 b6 b7 b8 q0 q1 q2 q3 q4 q5 q6 q7 q8 f0 f1 f2 gS ls lp ne1;refine (HT3.out u3 n3).mono ?_;rintro e v3 ⟨⟨x,rfl,g3,e3,rfl,o3⟩,m3⟩;have lg3:=(bC o3).2;simp only at lg3;have lm3:=m3.size;have P1:=ab H1 m3;have P2:=ab H2 m3;have P3:=ab H3 m3;obtain ⟨b0,b1,b2,b3,b4,b5,b6,b7,b8⟩:=aP P1.out;obtain ⟨q0,q1,q2,q3,q4,q5,q6,q7,q8⟩:=aP P3.out;have ff:=gj P3.out;have f0:=ff 6;have f1:=ff 7;have f2:=ff 8;clear ff;have ls:w.heap.size<v3.heap.size:=by omega
 have lp:w.heap.size+1+1<v3.heap.size:=by omega
 have O3:=hid o3;replace O1:=hid (ag O1.out m3);replace O2:=hid (ag O2.out m3);clear o3;obtain ⟨j0,j1,j2,j3,j4,j5,j6,j7,j8⟩:=aP P2.out;have gg:=gj P2.out;have d0:=gg 0;have d1:=gg 1;have d2:=gg 2;have d3:=gg 3;have d4:=gg 4;have d5:=gg 5;have d6:=gg 6;have d7:=gg 7;have d8:=gg 8;clear gg;have ne1:w.heap.size+1≠w.heap.size+1+1:=by omega
 have ne2:w.heap.size+1+1≠w.heap.size+1:=by omega
 have lr:w.heap.size+1<v3.heap.size:=by omega
 go_wp2_with fail;have gS:=ak (ak (ak (au v3 (some (w.heap.size+1+1))) 6 (.int .i64 k.p.sets)) 7 (.int .i64 k.p.ways)) 8 (.slice (some ⟨g3,0,none⟩) k.p.es.length e3);have n4:=(bst n3 m3).grown gS (by omega) (fun q hq=>by cases hq;omega);have gR:=fun w=>gb9 w (w.heap.size+1);have gR:=gb9 (((v3.setCell ⟨w.heap.size+1+1,6,none⟩ (.int .i64 k.p.sets)).setCell ⟨w.heap.size+1+1,7,none⟩ (.int .i64 k.p.ways)).setCell ⟨w.heap.size+1+1,8,none⟩ (.slice (some ⟨g3,0,none⟩) k.p.es.length e3)) (w.heap.size+1);have hh:=aQ P2.out gS (by omega);generalize (((v3.setCell ⟨w.heap.size+1+1,6,none⟩ (.int .i64 k.p.sets)).setCell ⟨w.heap.size+1+1,7,none⟩ (.int .i64 k.p.ways)).setCell ⟨w.heap.size+1+1,8,none⟩ (.slice (some ⟨g3,0,none⟩) k.p.es.length e3))=v4 at gS n4 gR hh |-;clear j0 j1 j2 j3 j4 j5 j6 j7 j8;obtain ⟨j0,j1,j2,j3,j4,j5,j6,j7,j8⟩:=aP hh;refine bodyPost_ret (v:=.agg #[.int .i64 k.i.sets,.int .i64 k.i.ways,.slice (some ⟨g1,0,none⟩) k.i.es.length e1,.int .i64 k.d.sets,.int .i64 k.d.ways,.slice (some ⟨g2,0,none⟩) k.d.es.length e2,.int .i64 k.p.sets,.int .i64 k.p.ways,.slice (some ⟨g3,0,none⟩) k.p.es.length e3]) (by simp [results,Tryz.results28,go_sem,j0,j1,j2,j3,j4,j5,j6,j7,j8]) rfl ⟨⟨_,rfl,g1,e1,g2,e2,g3,e3,rfl,?_,?_,?_,by omega,by omega,by omega⟩,zL n4 (by omega) _ _ _ _ _ _ _ _ _⟩
 ·exact aK (aN (aN O1.out gS (by omega)) (gR _ _ _ _ _ _ _ _ _) (by omega)) (by omega)
 ·exact aK (aN (aN O2.out gS (by omega)) (gR _ _ _ _ _ _ _ _ _) (by omega)) (by omega)
 ·exact aK (aN (aN O3.out gS (by omega)) (gR _ _ _ _ _ _ _ _ _) (by omega)) (by omega)
theorem fF {e:TypeId} {size base n:Nat} {w:World} {s:Value} {cs:List Value} (h:w.ownsRow base e size s n cs):(s=.slice none 0 0∧n=0∧cs=[])∨∃g cap,s=.slice (some ⟨g,0,none⟩) n cap:=by
 rcases h.2 with ⟨h1,h2⟩ | ⟨g,cap,_,h1,_⟩
 ·refine .inl ⟨h1,h2,?_⟩;have:=h.1;subst h2;simpa using this
 ·exact .inr ⟨g,cap,h1⟩
def RowS (w:World) (s:Value) (n:Nat) (cs:List Value):Prop:=∃a cap,s=.slice a n cap∧RowC w a n 6 cs
theorem RowS.keep {w w':World} {s:Value} {n:Nat} {cs:List Value} (h:RowS w s n cs) (hb:Below w.heap.size w w'):RowS w' s n cs:=by
 obtain ⟨a,c,h1,h2⟩:=h;exact ⟨a,c,h1,h2.keep hb⟩
theorem uh {e:TypeId} {base n:Nat} {w:World} {s:Value} {cs:List Value} (h:w.ownsRow base e 6 s n cs):RowS w s n cs:=by
 rcases fF h with ⟨rfl,rfl,rfl⟩ | ⟨g,cap,rfl⟩
 ·exact ⟨none,0,rfl,dv h⟩
 ·exact ⟨_,_,rfl,dv h⟩
theorem nl (sets ways:Int) (s t:Value) (es:List EntM) (w:World) (h:RowS w s es.length (az es)) (h':RowS w t es.length (az es)) (hl:es.length<=1048576):
 Calls Tryz.prog 65 #[.agg #[.int .i64 sets,.int .i64 ways,s],.agg #[.int .i64 sets,.int .i64 ways,t]] w fun e w'=>e=.returned (.bool true)∧Below w.heap.size w w':=by
 obtain ⟨a,ca,rfl,h1⟩:=h;obtain ⟨b,cb,rfl,h2⟩:=h';exact wI sets ways a b es.length ca cb es w h1 h2 rfl hl
theorem sV (k:KM) (s1 s2 s3 t1 t2 t3:Value) (w:World) (hs1:RowS w s1 k.i.es.length (az k.i.es)) (hs2:RowS w s2 k.d.es.length (az k.d.es)) (hs3:RowS w s3 k.p.es.length (az k.p.es)) (ht1:RowS w t1 k.i.es.length (az k.i.es)) (ht2:RowS w t2 k.d.es.length (az k.d.es)) (ht3:RowS w t3 k.p.es.length (az k.p.es)) (l1:k.i.es.length<=1048576) (l2:k.d.es.length<=1048576) (l3:k.p.es.length<=1048576):
 Calls Tryz.prog 34 #[.agg #[.int .i64 k.i.sets,.int .i64 k.i.ways,s1,.int .i64 k.d.sets,.int .i64 k.d.ways,s2,.int .i64 k.p.sets,.int .i64 k.p.ways,s3],.agg #[.int .i64 k.i.sets,.int .i64 k.i.ways,t1,.int .i64 k.d.sets,.int .i64 k.d.ways,t2,.int .i64 k.p.sets,.int .i64 k.p.ways,t3]] w fun e w'=>e=.returned (.bool true)∧Below w.heap.size w w':=by
 have os:∀s n cs,RowS w s n cs->s.oneCell'=true:=by
  rintro s n cs ⟨a,c,rfl,_⟩;rfl
 have E1:=hid fun u (hu:Below w.heap.size w u)=>nl k.i.sets k.i.ways s1 t1 k.i.es u (hs1.keep hu) (ht1.keep hu) l1;have E2:=hid fun u (hu:Below w.heap.size w u)=>nl k.d.sets k.d.ways s2 t2 k.d.es u (hs2.keep hu) (ht2.keep hu) l2;have E3:=hid fun u (hu:Below w.heap.size w u)=>nl k.p.sets k.p.ways s3 t3 k.p.es u (hs3.keep hu) (ht3.keep hu) l3;obtain ⟨sa1,sc1,rfl,_⟩:=hs1;obtain ⟨ta1,tc1,rfl,_⟩:=ht1;obtain ⟨sa2,sc2,rfl,_⟩:=hs2;obtain ⟨ta2,tc2,rfl,_⟩:=ht2;obtain ⟨sa3,sc3,rfl,_⟩:=hs3;obtain ⟨ta3,tc3,rfl,_⟩:=ht3;clear os;have n1:=((Below.refl w.heap.size w).alloc nle (Obj.cells #[.int .i64 k.i.sets,.int .i64 k.i.ways,.slice sa1 k.i.es.length sc1,.int .i64 k.d.sets,.int .i64 k.d.ways,.slice sa2 k.d.es.length sc2,.int .i64 k.p.sets,.int .i64 k.p.ways,.slice sa3 k.p.es.length sc3] 37)).alloc (by simp) (Obj.cells #[.int .i64 k.i.sets,.int .i64 k.i.ways,.slice ta1 k.i.es.length tc1,.int .i64 k.d.sets,.int .i64 k.d.ways,.slice ta2 k.d.es.length tc2,.int .i64 k.p.sets,.int .i64 k.p.ways,.slice ta3 k.p.es.length tc3] 37);have H1:Hid (((w.alloc (Obj.cells #[.int .i64 k.i.sets,.int .i64 k.i.ways,.slice sa1 k.i.es.length sc1,.int .i64 k.d.sets,.int .i64 k.d.ways,.slice sa2 k.d.es.length sc2,.int .i64 k.p.sets,.int .i64 k.p.ways,.slice sa3 k.p.es.length sc3] 37)).alloc (Obj.cells #[.int .i64 k.i.sets,.int .i64 k.i.ways,.slice ta1 k.i.es.length tc1,.int .i64 k.d.sets,.int .i64 k.d.ways,.slice ta2 k.d.es.length tc2,.int .i64 k.p.sets,.int .i64 k.p.ways,.slice ta3 k.p.es.length tc3] 37)).heap[w.heap.size]?=some (.cells #[.int .i64 k.i.sets,.int .i64 k.i.ways,.slice sa1 k.i.es.length sc1,.int .i64 k.d.sets,.int .i64 k.d.ways,.slice sa2 k.d.es.length sc2,.int .i64 k.p.sets,.int .i64 k.p.ways,.slice sa3 k.p.es.length sc3] 37 (0,0))):=by
  show _=_;rw [heap_alloc_old _ _ (by simp)];exact heap_alloc_new w _
 have H2:Hid (((w.alloc (Obj.cells #[.int .i64 k.i.sets,.int .i64 k.i.ways,.slice sa1 k.i.es.length sc1,.int .i64 k.d.sets,.int .i64 k.d.ways,.slice sa2 k.d.es.length sc2,.int .i64 k.p.sets,.int .i64 k.p.ways,.slice sa3 k.p.es.length sc3] 37)).alloc (Obj.cells #[.int .i64 k.i.sets,.int .i64 k.i.ways,.slice ta1 k.i.es.length tc1,.int .i64 k.d.sets,.int .i64 k.d.ways,.slice ta2 k.d.es.length tc2,.int .i64 k.p.sets,.int .i64 k.p.ways,.slice ta3 k.p.es.length tc3] 37)).heap[w.heap.size+1]?=some (.cells #[.int .i64 k.i.sets,.int .i64 k.i.ways,.slice ta1 k.i.es.length tc1,.int .i64 k.d.sets,.int .i64 k.d.ways,.slice ta2 k.d.es.length tc2,.int .i64 k.p.sets,.int .i64 k.p.ways,.slice ta3 k.p.es.length tc3] 37 (0,0))):=by
  have:=heap_alloc_new (w.alloc (Obj.cells #[.int .i64 k.i.sets,.int .i64 k.i.ways,.slice sa1 k.i.es.length sc1,.int .i64 k.d.sets,.int .i64 k.d.ways,.slice sa2 k.d.es.length sc2,.int .i64 k.p.sets,.int .i64 k.p.ways,.slice sa3 k.p.es.length sc3] 37)) (Obj.cells #[.int .i64 k.i.sets,.int .i64 k.i.ways,.slice ta1 k.i.es.length tc1,.int .i64 k.d.sets,.int .i64 k.d.ways,.slice ta2 k.d.es.length tc2,.int .i64 k.p.sets,.int .i64 k.p.ways,.slice ta3 k.p.es.length tc3] 37);simp only [World.size_alloc] at this;exact this
 go_enter Tryz.func34,Tryz.ntmps34;go_wp2_with fail;generalize (w.alloc (Obj.cells #[.int .i64 k.i.sets,.int .i64 k.i.ways,.slice sa1 k.i.es.length sc1,.int .i64 k.d.sets,.int .i64 k.d.ways,.slice sa2 k.d.es.length sc2,.int .i64 k.p.sets,.int .i64 k.p.ways,.slice sa3 k.p.es.length sc3] 37)).alloc (Obj.cells #[.int .i64 k.i.sets,.int .i64 k.i.ways,.slice ta1 k.i.es.length tc1,.int .i64 k.d.sets,.int .i64 k.d.ways,.slice ta2 k.d.es.length tc2,.int .i64 k.p.sets,.int .i64 k.p.ways,.slice ta3 k.p.es.length tc3] 37)=u1 at n1 H1 H2 |-;refine (E1.out u1 n1).mono ?_;rintro e u2 ⟨rfl,m1⟩;have n2:=bst n1 m1;replace H1:=ab H1 m1;replace H2:=ab H2 m1;obtain ⟨b0,b1,b2,b3,b4,b5,b6,b7,b8⟩:=aP H1.out;obtain ⟨q0,q1,q2,q3,q4,q5,q6,q7,q8⟩:=aP H2.out;go_wp2_with fail;clear b0 b1 b2 b3 b4 b5 b6 b7 b8 q0 q1 q2 q3 q4 q5 q6 q7 q8;refine (E2.out u2 n2).mono ?_;rintro e u3 ⟨rfl,m2⟩;have n3:=bst n2 m2;replace H1:=ab H1 m2;replace H2:=ab H2 m2;obtain ⟨b0,b1,b2,b3,b4,b5,b6,b7,b8⟩:=aP H1.out;obtain ⟨q0,q1,q2,q3,q4,q5,q6,q7,q8⟩:=aP H2.out;go_wp2_with fail;clear b0 b1 b2 b3 b4 b5 b6 b7 b8 q0 q1 q2 q3 q4 q5 q6 q7 q8;refine (E3.out u3 n3).mono ?_;rintro e u4 ⟨rfl,m3⟩;have n4:=bst n3 m3;replace H1:=ab H1 m3;replace H2:=ab H2 m3;obtain ⟨b0,b1,b2,b3,b4,b5,b6,b7,b8⟩:=aP H1.out;obtain ⟨q0,q1,q2,q3,q4,q5,q6,q7,q8⟩:=aP H2.out;go_wp2_with fail;clear b0 b1 b2 b3 b4 b5 b6 b7 b8 q0 q1 q2 q3 q4 q5 q6 q7 q8;go_ret;exact ⟨rfl,n4⟩
structure Mid (R:Nat->Prop) (w w':World):Prop where
 os:w'.os=w.os
 tape:w'.tape=w.tape
 output:w'.output=w.output
 size:w.heap.size<=w'.heap.size
 block:∀i,i<w.heap.size->¬R i->w'.heap[i]?=w.heap[i]?
theorem Mid.of_gb {R:Nat->Prop} {w w':World} {r:Option Nat} (h:w.grownBy w' r) (hr:∀g,r=some g->R g):Mid R w w':=
 ⟨h.os,h.tape,h.output,h.size,fun i hi' hh=>h.block i hi' (fun e=>hh (hr i e.symm))⟩
theorem Mid.of_below {R:Nat->Prop} {w w':World} (h:Below w.heap.size w w'):Mid R w w':=
 ⟨h.os,h.tape,h.output,h.size,fun i hi' _=>h.block i hi'⟩
theorem Mid.trans {R:Nat->Prop} {a b c:World} (h:Mid R a b) (k:Mid R b c):Mid R a c:=
 ⟨k.os.trans h.os,k.tape.trans h.tape,k.output.trans h.output,Nat.le_trans h.size k.size,fun i hi' hh=>(k.block i (Nat.lt_of_lt_of_le hi' h.size) hh).trans (h.block i hi' hh)⟩
theorem Mid.heap {R:Nat->Prop} {g:Nat} {w w':World} {o:Obj} (h:Mid R w w') (hg:w.heap[g]?=some o) (hh:¬R g):w'.heap[g]?=some o:=
 (h.block g (hpl hg) hh).trans hg
theorem Mid.below {R:Nat->Prop} {B:Nat} {a w w':World} (h:Mid R w w') (hb:Below B a w) (hB:B<=w.heap.size) (hl:∀g,R g->B<=g):Below B a w':=
 ⟨h.os.trans hb.os,h.tape.trans hb.tape,h.output.trans hb.output,Nat.le_trans hb.size h.size,fun k hk=>(h.block k (by omega) (fun hr=>by have:=hl k hr;omega)).trans (hb.block k hk)⟩
theorem Mid.own {R:Nat->Prop} {e:TypeId} {size base n:Nat} {w w':World} {s:Value} {cs:List Value} (h:Mid R w w') (ho:w.ownsRow base e size s n cs) (hh:∀g,s.ownBlock=some g->¬R g):w'.ownsRow base e size s n cs:=by
 refine ⟨ho.1,?_⟩;rcases ho.2 with h1 | ⟨g,cap,cur,h1,h2,h3,h4⟩
 ·exact .inl h1
 ·exact .inr ⟨g,cap,cur,h1,h2,h.heap h3 (hh g (by rw [h1];rfl)),h4⟩
def nm (s1 s2 s3:Value) (i:Nat):Prop:=s1.ownBlock=some i∨s2.ownBlock=some i∨s3.ownBlock=some i
theorem wm {e:TypeId} {size base n:Nat} {w:World} {s:Value} {cs:List Value} (h:w.ownsRow base e size s n cs):∀g,s.ownBlock=some g->base<=g∧g<w.heap.size:=fun g hg=>h.lt g hg
theorem dn {e:TypeId} {size base n:Nat} {w w':World} {s t:Value} {cs:List Value} (h:w.ownsRow base e size s n cs) (hg:w.grownBy w' t.ownBlock) (ha:dI s t):w'.ownsRow base e size s n cs:=by
 refine h.kept hg ?_;cases hs:s.ownBlock with
 | none=>exact .inl rfl
 | some g=>exact .inr fun he=>ha g hs he.symm
theorem ui {w w':World} {r:Option Nat} (h:Below w.heap.size w w'):w.grownBy w' r:=⟨h.os,h.tape,h.output,h.size,fun i hi _=>h.block i hi⟩
theorem lK {s t:Value} (h:dI s t):dI t s:=fun g h1 h2=>h g h2 h1
theorem jH (sets ways:Int) (base n:Nat) (s:Value) (cs:List Value) (k0:Int) (w:World) (h:w.ownsRow base 153 6 s n cs) (hl:n<=1048576) (hk0:0<=k0) (hk1:k0<=1073741824):
 Calls Tryz.prog 66 #[.agg #[.int .i64 sets,.int .i64 ways,s],.int .i64 k0] w fun e w'=>e=.returned (.int .i64 (k0+n*6))∧w'.ownsRow base 153 6 s n (fy k0 (n*6))∧w.grownBy w' s.ownBlock:=by
 rcases fF h with ⟨rfl,rfl,rfl⟩ | ⟨g,cap,rfl⟩
 ·refine (vy sets ways none 0 k0 w).mono ?_;rintro e w' ⟨rfl,hb⟩;exact ⟨by simp,World.ownsRow_nil _ _ _ _,ui hb⟩
 ·exact vH sets ways base g n cap cs k0 w h hl hk0 hk1
theorem jI (sets ways:Int) (base n:Nat) (s:Value) (k0:Int) (w:World) (h:w.ownsRow base 153 6 s n (fy k0 (n*6))) (hl:n<=1048576) (hk0:0<=k0) (hk1:k0<=1073741824):
 Calls Tryz.prog 111 #[.agg #[.int .i64 sets,.int .i64 ways,s],.int .i64 k0] w fun e w'=>e=.returned (.int .i64 (k0+n*6))∧Below w.heap.size w w':=by
 rcases fF h with ⟨rfl,rfl,_⟩ | ⟨g,cap,rfl⟩
 ·refine (vJ sets ways none 0 k0 w hk0).mono ?_;rintro e w' ⟨rfl,hb⟩;exact ⟨by simp,hb⟩
 ·exact vK sets ways base g n cap k0 w h hl hk0 hk1
theorem pR (k:KM) (base:Nat) (s1 s2 s3:Value) (cs1 cs2 cs3:List Value) (k0:Int) (w:World) (h1:w.ownsRow base 153 6 s1 k.i.es.length cs1) (h2:w.ownsRow base 153 6 s2 k.d.es.length cs2) (h3:w.ownsRow base 153 6 s3 k.p.es.length cs3) (d12:dI s1 s2) (d13:dI s1 s3) (d23:dI s2 s3) (l1:k.i.es.length<=1048576) (l2:k.d.es.length<=1048576) (l3:k.p.es.length<=1048576) (hk0:0<=k0) (hk1:k0<=1048577):
 Calls Tryz.prog 36 #[.agg #[.int .i64 k.i.sets,.int .i64 k.i.ways,s1,.int .i64 k.d.sets,.int .i64 k.d.ways,s2,.int .i64 k.p.sets,.int .i64 k.p.ways,s3],.int .i64 k0] w fun e w'=>e=.returned (.int .i64 (k0+k.i.es.length*6+k.d.es.length*6+k.p.es.length*6))∧(w'.ownsRow base 153 6 s1 k.i.es.length (fy k0 (k.i.es.length*6))∧w'.ownsRow base 153 6 s2 k.d.es.length (fy (k0+k.i.es.length*6) (k.d.es.length*6))∧w'.ownsRow base 153 6 s3 k.p.es.length (fy (k0+k.i.es.length*6+k.d.es.length*6) (k.p.es.length*6)))∧Mid (nm s1 s2 s3) w w':=by
 have B1:=wm h1;have B2:=wm h2;have B3:=wm h3;have os:∀s n cs,w.ownsRow base 153 6 s n cs->∃a c,s=.slice a n c:=fun s n cs h=>by
  obtain ⟨a,c,e,_⟩:=uh h;exact ⟨a,c,e⟩
 obtain ⟨a1,c1,rfl⟩:=os _ _ _ h1;obtain ⟨a2,c2,rfl⟩:=os _ _ _ h2;obtain ⟨a3,c3,rfl⟩:=os _ _ _ h3;have HH1:Hid _:=h1;have HH2:Hid _:=h2;have HH3:Hid _:=h3;clear os h1 h2 h3;have n1:=(Below.refl w.heap.size w).alloc nle (Obj.cells #[.int .i64 k.i.sets,.int .i64 k.i.ways,.slice a1 k.i.es.length c1,.int .i64 k.d.sets,.int .i64 k.d.ways,.slice a2 k.d.es.length c2,.int .i64 k.p.sets,.int .i64 k.p.ways,.slice a3 k.p.es.length c3] 37);have H1:Hid ((w.alloc (Obj.cells #[.int .i64 k.i.sets,.int .i64 k.i.ways,.slice a1 k.i.es.length c1,.int .i64 k.d.sets,.int .i64 k.d.ways,.slice a2 k.d.es.length c2,.int .i64 k.p.sets,.int .i64 k.p.ways,.slice a3 k.p.es.length c3] 37)).heap[w.heap.size]?=some (.cells #[.int .i64 k.i.sets,.int .i64 k.i.ways,.slice a1 k.i.es.length c1,.int .i64 k.d.sets,.int .i64 k.d.ways,.slice a2 k.d.es.length c2,.int .i64 k.p.sets,.int .i64 k.p.ways,.slice a3 k.p.es.length c3] 37 (0,0))):=heap_alloc_new w _;go_enter Tryz.func36,Tryz.ntmps36;go_wp2_with fail;generalize w.alloc (Obj.cells #[.int .i64 k.i.sets,.int .i64 k.i.ways,.slice a1 k.i.es.length c1,.int .i64 k.d.sets,.int .i64 k.d.ways,.slice a2 k.d.es.length c2,.int .i64 k.p.sets,.int .i64 k.p.ways,.slice a3 k.p.es.length c3] 37)=u1 at n1 H1 |-;have M1:Mid (nm (.slice a1 k.i.es.length c1) (.slice a2 k.d.es.length c2) (.slice a3 k.p.es.length c3)) w u1:=Mid.of_below n1;have K1:Hid _:=ag HH1.out n1;have K2:Hid _:=ag HH2.out n1;have K3:Hid _:=ag HH3.out n1;refine (jH k.i.sets k.i.ways base k.i.es.length _ _ k0 u1 K1.out l1 (by omega) (by omega)).mono ?_;rintro e u2 ⟨rfl,r1,gm1⟩;have M2:=M1.trans (Mid.of_gb gm1 (fun g hg=>.inl hg));replace K1:Hid _:=r1;replace K2:Hid _:=dn K2.out gm1 (lK d12);replace K3:Hid _:=dn K3.out gm1 (lK d13);have X1:=hid ((gm1.block w.heap.size (hpl H1.out) (fun e=>by have:=B1 _ e.symm;omega)).trans H1.out);replace H1:=X1;clear r1 gm1 X1;obtain ⟨b0,b1,b2,b3,b4,b5,b6,b7,b8⟩:=aP H1.out;go_wp2_with fail;clear b0 b1 b2 b3 b4 b5 b6 b7 b8;refine (jH k.d.sets k.d.ways base k.d.es.length _ _ (k0+k.i.es.length*6) u2 K2.out l2 (by omega) (by omega)).mono ?_;rintro e u3 ⟨rfl,r2,gm2⟩;have M3:=M2.trans (Mid.of_gb gm2 (fun g hg=>.inr (.inl hg)));replace K1:Hid _:=dn K1.out gm2 d12;replace K2:Hid _:=r2;replace K3:Hid _:=dn K3.out gm2 (lK d23);have X2:=hid ((gm2.block w.heap.size (hpl H1.out) (fun e=>by have:=B2 _ e.symm;omega)).trans H1.out);replace H1:=X2;clear r2 gm2 X2;obtain ⟨b0,b1,b2,b3,b4,b5,b6,b7,b8⟩:=aP H1.out;go_wp2_with fail;clear b0 b1 b2 b3 b4 b5 b6 b7 b8;refine (jH k.p.sets k.p.ways base k.p.es.length _ _ (k0+k.i.es.length*6+k.d.es.length*6) u3 K3.out l3 (by omega) (by omega)).mono ?_;rintro e u4 ⟨rfl,r3,gm3⟩;have M4:=M3.trans (Mid.of_gb gm3 (fun g hg=>.inr (.inr hg)));replace K1:Hid _:=dn K1.out gm3 d13;replace K2:Hid _:=dn K2.out gm3 d23;replace K3:Hid _:=r3;have X3:=hid ((gm3.block w.heap.size (hpl H1.out) (fun e=>by have:=B3 _ e.symm;omega)).trans H1.out);replace H1:=X3;clear r3 gm3 X3;obtain ⟨b0,b1,b2,b3,b4,b5,b6,b7,b8⟩:=aP H1.out;go_wp2_with fail;clear b0 b1 b2 b3 b4 b5 b6 b7 b8;go_ret;exact ⟨rfl,⟨K1.out,K2.out,K3.out⟩,M4⟩
theorem pS (k:KM) (base:Nat) (s1 s2 s3:Value) (k0:Int) (w:World) (h:w.ownsRow base 153 6 s1 k.i.es.length (fy k0 (k.i.es.length*6))∧w.ownsRow base 153 6 s2 k.d.es.length (fy (k0+k.i.es.length*6) (k.d.es.length*6))∧w.ownsRow base 153 6 s3 k.p.es.length (fy (k0+k.i.es.length*6+k.d.es.length*6) (k.p.es.length*6))) (l1:k.i.es.length<=1048576) (l2:k.d.es.length<=1048576) (l3:k.p.es.length<=1048576) (hk0:0<=k0) (hk1:k0<=1048577):
 Calls Tryz.prog 67 #[.agg #[.int .i64 k.i.sets,.int .i64 k.i.ways,s1,.int .i64 k.d.sets,.int .i64 k.d.ways,s2,.int .i64 k.p.sets,.int .i64 k.p.ways,s3],.int .i64 k0] w fun e w'=>e=.returned (.int .i64 (k0+k.i.es.length*6+k.d.es.length*6+k.p.es.length*6))∧Below w.heap.size w w':=by
 obtain ⟨h1,h2,h3⟩:=h;have os:∀s n cs,w.ownsRow base 153 6 s n cs->∃a c,s=.slice a n c:=fun s n cs h=>by
  obtain ⟨a,c,e,_⟩:=uh h;exact ⟨a,c,e⟩
 obtain ⟨a1,c1,rfl⟩:=os _ _ _ h1;obtain ⟨a2,c2,rfl⟩:=os _ _ _ h2;obtain ⟨a3,c3,rfl⟩:=os _ _ _ h3;have HH1:Hid _:=h1;have HH2:Hid _:=h2;have HH3:Hid _:=h3;clear os h1 h2 h3;have n1:=(Below.refl w.heap.size w).alloc nle (Obj.cells #[.int .i64 k.i.sets,.int .i64 k.i.ways,.slice a1 k.i.es.length c1,.int .i64 k.d.sets,.int .i64 k.d.ways,.slice a2 k.d.es.length c2,.int .i64 k.p.sets,.int .i64 k.p.ways,.slice a3 k.p.es.length c3] 37);have H1:Hid ((w.alloc (Obj.cells #[.int .i64 k.i.sets,.int .i64 k.i.ways,.slice a1 k.i.es.length c1,.int .i64 k.d.sets,.int .i64 k.d.ways,.slice a2 k.d.es.length c2,.int .i64 k.p.sets,.int .i64 k.p.ways,.slice a3 k.p.es.length c3] 37)).heap[w.heap.size]?=some (.cells #[.int .i64 k.i.sets,.int .i64 k.i.ways,.slice a1 k.i.es.length c1,.int .i64 k.d.sets,.int .i64 k.d.ways,.slice a2 k.d.es.length c2,.int .i64 k.p.sets,.int .i64 k.p.ways,.slice a3 k.p.es.length c3] 37 (0,0))):=heap_alloc_new w _;have t1:decide (k0+k.i.es.length*6<0)=false:=by simp;omega
 have t2:decide (k0+k.i.es.length*6+k.d.es.length*6<0)=false:=by simp;omega
 have t3:decide (k0+k.i.es.length*6+k.d.es.length*6+k.p.es.length*6<0)=false:=by simp;omega
 go_enter Tryz.func67,Tryz.ntmps67;go_wp2_with fail;generalize w.alloc (Obj.cells #[.int .i64 k.i.sets,.int .i64 k.i.ways,.slice a1 k.i.es.length c1,.int .i64 k.d.sets,.int .i64 k.d.ways,.slice a2 k.d.es.length c2,.int .i64 k.p.sets,.int .i64 k.p.ways,.slice a3 k.p.es.length c3] 37)=u1 at n1 H1 |-;refine (jI k.i.sets k.i.ways base k.i.es.length _ k0 u1 (ag HH1.out n1) l1 (by omega) (by omega)).mono ?_;rintro e u2 ⟨rfl,m1⟩;have n2:=bst n1 m1;replace H1:=ab H1 m1;obtain ⟨b0,b1,b2,b3,b4,b5,b6,b7,b8⟩:=aP H1.out;go_wp2_with fail;clear b0 b1 b2 b3 b4 b5 b6 b7 b8;refine (jI k.d.sets k.d.ways base k.d.es.length _ (k0+k.i.es.length*6) u2 (ag HH2.out n2) l2 (by omega) (by omega)).mono ?_;rintro e u3 ⟨rfl,m2⟩;have n3:=bst n2 m2;replace H1:=ab H1 m2;obtain ⟨b0,b1,b2,b3,b4,b5,b6,b7,b8⟩:=aP H1.out;go_wp2_with fail;clear b0 b1 b2 b3 b4 b5 b6 b7 b8;refine (jI k.p.sets k.p.ways base k.p.es.length _ (k0+k.i.es.length*6+k.d.es.length*6) u3 (ag HH3.out n3) l3 (by omega) (by omega)).mono ?_;rintro e u4 ⟨rfl,m3⟩;have n4:=bst n3 m3;replace H1:=ab H1 m3;obtain ⟨b0,b1,b2,b3,b4,b5,b6,b7,b8⟩:=aP H1.out;go_wp2_with fail;clear b0 b1 b2 b3 b4 b5 b6 b7 b8;go_ret;exact ⟨rfl,n4⟩
section
attribute [local go_sem ↓] Go.wp_at_zero Go.wp_at_succ
def mkF (f:Nat->Value) (m:Nat):List Value:=(List.range m).map f
theorem wX (f:Nat->Value) (m t:Nat) (h:t<m):(mkF f m)[t]?=some (f t):=by
 simp [mkF,h]
theorem AX (f:Nat->Value) (m:Nat):(mkF f m).length=m:=by simp [mkF]
theorem vr (f:Nat->Value) (m j:Nat) (ys:List Value) (hy:ys.length=m) (hj:j<m) (h:∀t,t<j->ys[t]?=some (f t)):∀t,t<j+1->(ys.set j (f j))[t]?=some (f t):=by
 intro t ht;by_cases h0:t=j
 ·subst h0;rw [List.getElem?_set_self (by omega)]
 ·rw [List.getElem?_set_ne (by omega)];exact h t (by omega)
theorem xQ (f:Nat->Value) (m:Nat) (ys:List Value) (hy:ys.length=m) (h:∀t,t<m->ys[t]?=some (f t)):ys=mkF f m:=by
 apply List.ext_getElem?;intro t;by_cases ht:t<m
 ·rw [wX f m t ht];exact h t ht
 ·rw [List.getElem?_eq_none (by omega),List.getElem?_eq_none (by rw [AX];omega)]
def fB (k0:Int) (j:Nat):Value:=.int .u8 ((k0+j)%256)
theorem rL (base n:Nat) (s:Value) (cs:List Value) (k0:Int) (w:World) (h:w.ownsRow base 5 1 s n cs) (hl:n<=1048576) (hk0:0<=k0) (hk1:k0<=1073741824):
 Calls Tryz.prog 19 #[s,.int .i64 k0] w fun e w'=>e=.returned (.int .i64 (k0+n))∧w'.ownsRow base 5 1 s n (mkF (fB k0) n)∧w.grownBy w' s.ownBlock:=by
 rcases fF h with ⟨rfl,rfl,rfl⟩ | ⟨g,cap,rfl⟩
 ·go_enter Tryz.func19,Tryz.ntmps19;go_wp2;go_loopw [1,5] (fun kk i wr=>kk=.int .i64 k0∧i=.int .i64 0∧wr=w) (fun _ i _=>0)
  case atStart=>exact ⟨rfl,rfl,rfl⟩
  case round=>
   obtain ⟨rfl,rfl,rfl⟩:=hrel;go_wp2;go_ret;exact ⟨by simp,h,au _ _⟩
 ·have HI:Hid _:=h;have hlen:=h.1;clear h;go_enter Tryz.func19,Tryz.ntmps19;go_wp2;go_loopw [1,5] (fun kk i wr=>∃(j:Nat) (ys:List Value),j<=n∧kk=.int .i64 (k0+j)∧i=.int .i64 j∧ys.length=n∧(∀t,t<j->ys[t]?=some (fB k0 t))∧wr.ownsRow base 5 1 (.slice (some ⟨g,0,none⟩) n cap) n ys∧w.grownBy wr (some g)) (fun _ i _=>n-(intOf i).toNat)
  case atStart=>exact ⟨0,cs,Nat.zero_le _,by simp,rfl,by omega,fun t ht=>absurd ht (by omega),HI.out,au _ _⟩
  case round=>
   clear HI;obtain ⟨j,ys,hj,rfl,rfl,hy,hyz,hb,hn⟩:=hrel;by_cases hlt:j<n
   ·have y0:=aw hb j _ (List.getElem?_eq_getElem (by omega));generalize ys[j]'_=z0 at y0;have r0:=aD hb j;have HZ:=hid hyz;have HB:=hid hb;clear hyz hb;go_wp2;go_roundw
    case rel=>exact ⟨j+1,_,by omega,by go_num,by go_num,by rw [List.length_set];exact hy,vr (fB k0) n j ys hy hlt HZ.out,ax HB.out _ _,ak hn _ _⟩
    case measure=>simp [intOf];omega
   ·have hjl:j=n:=by omega
    subst hjl;have hyy:=xQ _ j ys hy hyz;subst hyy;have HB:Hid _:=hb;clear hyz hb hy;go_wp2;go_ret;exact ⟨rfl,HB.out,hn⟩
theorem rM (base n:Nat) (s:Value) (k0:Int) (w:World) (h:w.ownsRow base 5 1 s n (mkF (fB k0) n)) (hl:n<=1048576) (hk0:0<=k0) (hk1:k0<=1073741824):
 Calls Tryz.prog 44 #[s,.int .i64 k0] w fun e w'=>e=.returned (.int .i64 (k0+n))∧w'=w:=by
 rcases fF h with ⟨rfl,rfl,_⟩ | ⟨g,cap,rfl⟩
 ·clear h;go_enter Tryz.func44,Tryz.ntmps44;go_wp2
  go_loop [1,5] (fun kk i=>kk=.int .i64 k0∧i=.int .i64 0) (fun _ i=>0)
  case atStart=>exact ⟨rfl,rfl⟩
  case round=>
   obtain ⟨rfl,rfl⟩:=hrel;go_wp2;go_ret;exact ⟨by simp,rfl⟩
 ·go_enter Tryz.func44,Tryz.ntmps44;go_wp2
  go_loop [1,5] (fun kk i=>∃(j:Nat),j<=n∧kk=.int .i64 (k0+j)∧i=.int .i64 j) (fun _ i=>n-(intOf i).toNat)
  case atStart=>exact ⟨0,Nat.zero_le _,by simp,rfl⟩
  case round=>
   obtain ⟨j,hj,rfl,rfl⟩:=hrel;by_cases hlt:j<n
   ·have g2:=aw h j _ (wX (fB k0) n j hlt);have g3:w.cell? ⟨g,j,none⟩=some (.int .u8 ((k0+j)%256)):=g2;clear g2 h;go_wp2
    go_round
    case rel=>exact ⟨j+1,by omega,by go_num,by go_num⟩
    case measure=>simp [intOf];omega
   ·have hjl:j=n:=by omega
    subst hjl;clear h;go_wp2;go_ret;exact ⟨rfl,rfl⟩
def dX (k0:Int) (j:Nat):Value:=.int .u64 (k0+j)
theorem oX (base n:Nat) (s:Value) (cs:List Value) (k0:Int) (w:World) (h:w.ownsRow base 24 1 s n cs) (hl:n<=1048576) (hk0:0<=k0) (hk1:k0<=1073741824):
 Calls Tryz.prog 35 #[s,.int .i64 k0] w fun e w'=>e=.returned (.int .i64 (k0+n))∧w'.ownsRow base 24 1 s n (mkF (dX k0) n)∧w.grownBy w' s.ownBlock:=by
 rcases fF h with ⟨rfl,rfl,rfl⟩ | ⟨g,cap,rfl⟩
 ·go_enter Tryz.func35,Tryz.ntmps35;go_wp2;go_loopw [1,5] (fun kk i wr=>kk=.int .i64 k0∧i=.int .i64 0∧wr=w) (fun _ i _=>0)
  case atStart=>exact ⟨rfl,rfl,rfl⟩
  case round=>
   obtain ⟨rfl,rfl,rfl⟩:=hrel;go_wp2;go_ret;exact ⟨by simp,h,au _ _⟩
 ·have HI:Hid _:=h;have hlen:=h.1;clear h;go_enter Tryz.func35,Tryz.ntmps35;go_wp2;go_loopw [1,5] (fun kk i wr=>∃(j:Nat) (ys:List Value),j<=n∧kk=.int .i64 (k0+j)∧i=.int .i64 j∧ys.length=n∧(∀t,t<j->ys[t]?=some (dX k0 t))∧wr.ownsRow base 24 1 (.slice (some ⟨g,0,none⟩) n cap) n ys∧w.grownBy wr (some g)) (fun _ i _=>n-(intOf i).toNat)
  case atStart=>exact ⟨0,cs,Nat.zero_le _,by simp,rfl,by omega,fun t ht=>absurd ht (by omega),HI.out,au _ _⟩
  case round=>
   clear HI;obtain ⟨j,ys,hj,rfl,rfl,hy,hyz,hb,hn⟩:=hrel;by_cases hlt:j<n
   ·have y0:=aw hb j _ (List.getElem?_eq_getElem (by omega));generalize ys[j]'_=z0 at y0;have r0:=aD hb j;have HZ:=hid hyz;have HB:=hid hb;clear hyz hb;go_wp2;go_roundw
    case rel=>exact ⟨j+1,_,by omega,by go_num,by go_num,by rw [List.length_set];exact hy,vr (dX k0) n j ys hy hlt HZ.out,ax HB.out _ _,ak hn _ _⟩
    case measure=>simp [intOf];omega
   ·have hjl:j=n:=by omega
    subst hjl;have hyy:=xQ _ j ys hy hyz;subst hyy;have HB:Hid _:=hb;clear hyz hb hy;go_wp2;go_ret;exact ⟨rfl,HB.out,hn⟩
theorem oY (base n:Nat) (s:Value) (k0:Int) (w:World) (h:w.ownsRow base 24 1 s n (mkF (dX k0) n)) (hl:n<=1048576) (hk0:0<=k0) (hk1:k0<=1073741824):
 Calls Tryz.prog 45 #[s,.int .i64 k0] w fun e w'=>e=.returned (.int .i64 (k0+n))∧w'=w:=by
 rcases fF h with ⟨rfl,rfl,_⟩ | ⟨g,cap,rfl⟩
 ·clear h;go_enter Tryz.func45,Tryz.ntmps45;go_wp2
  go_loop [1,5] (fun kk i=>kk=.int .i64 k0∧i=.int .i64 0) (fun _ i=>0)
  case atStart=>exact ⟨rfl,rfl⟩
  case round=>
   obtain ⟨rfl,rfl⟩:=hrel;go_wp2;go_ret;exact ⟨by simp,rfl⟩
 ·go_enter Tryz.func45,Tryz.ntmps45;go_wp2
  go_loop [1,5] (fun kk i=>∃(j:Nat),j<=n∧kk=.int .i64 (k0+j)∧i=.int .i64 j) (fun _ i=>n-(intOf i).toNat)
  case atStart=>exact ⟨0,Nat.zero_le _,by simp,rfl⟩
  case round=>
   obtain ⟨j,hj,rfl,rfl⟩:=hrel;by_cases hlt:j<n
   ·have g2:=aw h j _ (wX (dX k0) n j hlt);have g3:w.cell? ⟨g,j,none⟩=some (.int .u64 (k0+j)):=g2;clear g2 h;go_wp2
    go_round
    case rel=>exact ⟨j+1,by omega,by go_num,by go_num⟩
    case measure=>simp [intOf];omega
   ·have hjl:j=n:=by omega
    subst hjl;clear h;go_wp2;go_ret;exact ⟨rfl,rfl⟩
end
theorem uM (n:Nat):∀(x:Int) (w:World),n<=8->0<=x->x<=18446744073709551615->
 Calls Tryz.prog 160 #[.int .u64 x,.int .i64 n] w fun e w'=>
  ∃g cap,e=.returned (.slice (some ⟨g,0,none⟩) n cap)∧OwnB 5 w' w.heap.size g n cap (cS x n)∧Below w.heap.size w w':=by
 induction n with
 | zero=>
  intro x w hn h0 h1;go_enter Tryz.func160,Tryz.ntmps160;go_wp2_with fail;go_ret;exact ⟨_,_,rfl,OwnB.new _ _ [] 0 rfl (by decide),(Below.refl _ _).alloc nle _⟩
 | succ n ih=>
  intro x w hn h0 h1;have hp:(((n+1:Nat):Int) == 0)=false:=by simp;omega
  have IH:Hid (∀(x:Int) (w:World),n<=8->0<=x->x<=18446744073709551615->
   Calls Tryz.prog 160 #[.int .u64 x,.int .i64 n] w fun e w'=>
    ∃g cap,e=.returned (.slice (some ⟨g,0,none⟩) n cap)∧OwnB 5 w' w.heap.size g n cap (cS x n)∧Below w.heap.size w w'):=ih
  clear ih;go_enter Tryz.func160,Tryz.ntmps160;go_wp2_with fail;have o1:=OwnB.new 5 w [x%256] 1 rfl (by decide);have n1:Below w.heap.size w (w.alloc (Obj.cells #[Value.int IntKind.u8 (x%256)] 5)):=(Below.refl _ _).alloc nle _;simp only [List.map_cons,List.map_nil] at o1;generalize w.alloc (Obj.cells #[Value.int IntKind.u8 (x%256)] 5)=v1 at o1 n1 |-;refine (IH.out (x/256) v1 (by omega) (by omega) (by omega)).mono ?_;rintro e v2 ⟨g,cap,rfl,o2,n2⟩;have o3:=o1.keep n2 o1.facts.2.2.1;have f2:=o2.facts;have n3:=bst n1 n2;have hlt:=o3.facts.2.2.1;have b2:=o2.byt (ge (pl n _));clear o1 n1 n2 IH;go_wp2_with (at_builtin;refine gF _ rfl (.tmp 11) (.tmp 16) 22 rfl 5 Tryz.underlying22 Tryz.infoB w.heap.size _ _ _ _ rfl o3 g 0 n cap (cS (x/256) n) rfl b2 (by omega) _ _ n3 nle ?_;intro g' cap' v4 o4 n4);go_ret;rw [Nat.add_comm 1 n] at o4;exact ⟨g',cap',wT (Nat.add_comm 1 n),o4,n4⟩
theorem yy (b off len cap k g o n capb:Nat) (zs ys:List Int) (w:World) (hz:Byt w (some ⟨b,off,none⟩) len zs) (hy:Byt w (some ⟨g,o,none⟩) n ys) (hl:len<=1048576) (hk:k+n<=len) (hc:len<=cap) (hm:cap<=9223372036854775807):
 Calls Tryz.prog 161 #[.slice (some ⟨b,off,none⟩) len cap,.int .i64 k,.slice (some ⟨g,o,none⟩) n capb] w fun e w'=>
  ∃g' cap',e=.returned (.slice (some ⟨g',0,none⟩) len cap')∧OwnB 5 w' w.heap.size g' len cap' (zs.take k++ys++zs.drop (k+n))∧Below w.heap.size w w':=by
 have hzl:=hz.1;have hyl:=hy.1;have o1:=OwnB.new 5 w [] 0 rfl (by decide);have n1:Below w.heap.size w (w.alloc (Obj.cells #[] 5)):=(Below.refl _ _).alloc nle _;simp only [List.map_nil] at o1;have x1:=(hz.take k (by omega)).keep n1;have fin:∀(a:Option Addr),(k+n<len->a=some ⟨b,off+(k+n),none⟩)->∀v:World,Below w.heap.size w v->Byt v a (len-(k+n)) (zs.drop (k+n)):=fun a ha v hv=>
  (hz.drop (k+n) (len-(k+n)) hk rfl a ha).keep hv
 have FIN:Hid _:=fin;have hlen:k+n+(len-(k+n))=len:=by omega
 have HL:=hid hlen;clear fin hlen;by_cases hcc:cap=k+n
 ·subst hcc;go_enter Tryz.func161,Tryz.ntmps161;go_wp2_with (first
   | (at_builtin;refine gF _ rfl (.tmp 8) (.tmp 11) 22 rfl 5 Tryz.underlying22 Tryz.infoB w.heap.size _ _ _ _ rfl o1 b off k _ (zs.take k) rfl x1 (by omega) _ _ n1 nle ?_;intro g2 cap2 v2 o2 n2;rw [Nat.zero_add] at o2 |-;have y2:=hy.keep n2;clear o1 n1 x1)
   | (at_builtin;refine gF _ rfl (.tmp 13) (.tmp 14) 22 rfl 5 Tryz.underlying22 Tryz.infoB w.heap.size _ _ _ _ rfl o2 g o n _ ys rfl y2 (by omega) _ _ n2 nle ?_;intro g3 cap3 v3 o3 n3;clear o2 n2 y2 hz hy)
   | (at_builtin;refine gF _ rfl (.tmp 16) (.tmp 22) 22 rfl 5 Tryz.underlying22 Tryz.infoB w.heap.size _ _ _ _ rfl o3 b (off) (len-(k+n)) _ (zs.drop (k+n)) rfl (FIN.out _ (fun h=>by omega) _ n3) (by omega) _ _ n3 nle ?_;intro g4 cap4 v4 o4 n4;clear o3 n3))
  go_ret;rw [HL.out] at o4;exact ⟨g4,cap4,wT (by omega),o4,n4⟩
 ·have hcl:k+n<cap:=by omega
  clear hcc;go_enter Tryz.func161,Tryz.ntmps161;go_wp2_with (first
   | (at_builtin;refine gF _ rfl (.tmp 8) (.tmp 11) 22 rfl 5 Tryz.underlying22 Tryz.infoB w.heap.size _ _ _ _ rfl o1 b off k _ (zs.take k) rfl x1 (by omega) _ _ n1 nle ?_;intro g2 cap2 v2 o2 n2;rw [Nat.zero_add] at o2 |-;have y2:=hy.keep n2;clear o1 n1 x1)
   | (at_builtin;refine gF _ rfl (.tmp 13) (.tmp 14) 22 rfl 5 Tryz.underlying22 Tryz.infoB w.heap.size _ _ _ _ rfl o2 g o n _ ys rfl y2 (by omega) _ _ n2 nle ?_;intro g3 cap3 v3 o3 n3;clear o2 n2 y2 hz hy)
   | (at_builtin;refine gF _ rfl (.tmp 16) (.tmp 22) 22 rfl 5 Tryz.underlying22 Tryz.infoB w.heap.size _ _ _ _ rfl o3 b (off+(k+n)) (len-(k+n)) _ (zs.drop (k+n)) rfl (FIN.out _ (fun _=>rfl) _ n3) (by omega) _ _ n3 nle ?_;intro g4 cap4 v4 o4 n4;clear o3 n3))
  go_ret;rw [HL.out] at o4;exact ⟨g4,cap4,wT (by omega),o4,n4⟩
theorem xy (a:Option Addr) (len cap:Nat) (addr n:Int) (w:World) (hl:len<=1048576) (h0:0<=addr) (h1:addr<=18446744073709551615) (h2:0<=n) (h3:n<=18446744073709551615):
 Calls Tryz.prog 114 #[.slice a len cap,.int .u64 addr,.int .u64 n] w fun e w'=>e=.returned (.bool (fw len addr n))∧w'=w:=by
 by_cases hh:n<=(len:Int);all_goals
  go_enter Tryz.func114,Tryz.ntmps114;go_wp2;all_goals
   go_ret;exact ⟨by simp [fw];try omega,rfl⟩
theorem sc (a:Option Addr) (len cap:Nat) (addr n:Int) (w:World) (hl:len<=1048576) (h0:0<=addr) (h1:addr<=18446744073709551615) (h3:n<=9223372036854775807):
 Calls Tryz.prog 241 #[.slice a len cap,.int .u64 addr,.int .i64 n] w fun e w'=>e=.returned (.bool (di len addr n))∧w'=w:=by
 by_cases hn:n=1∨n=2∨n=4∨n=8
 ·rw [<-ky len addr n hn];rcases hn with rfl | rfl | rfl | rfl;all_goals
   go_enter Tryz.func241,Tryz.ntmps241;go_wp2_with (go_at_call 114;refine (xy _ _ _ _ _ _ hl h0 h1 (by omega) (by omega)).mono ?_;rintro e w' ⟨rfl,rfl⟩);go_ret;exact ⟨rfl,rfl⟩
 ·have n1:(n == 1)=false:=by simp;omega
  have n2:(n == 2)=false:=by simp;omega
  have n4:(n == 4)=false:=by simp;omega
  have n8:(n == 8)=false:=by simp;omega
  have hg:di len addr n=false:=by simp [di];omega
  rw [hg];clear hn hg;go_enter Tryz.func241,Tryz.ntmps241;go_wp2_with fail;go_ret;exact ⟨rfl,rfl⟩
theorem kz (b off len cap k:Nat) (zs:List Int) (w:World) (h:Cel w b off len zs) (hk:k<len) (hl:len<=1048576):
 Calls Tryz.prog 134 #[.slice (some ⟨b,off,none⟩) len cap,.int .u64 k] w fun e w'=>e=.returned (.int .u64 (zs[k]?.getD 0))∧w'=w:=by
 have hcell:=h.2.2 k hk;have hb:=h.2.1 k;obtain ⟨z,hz'⟩:∃z,z=zs[k]?.getD 0:=⟨_,rfl⟩;rw [<-hz'] at hcell hb |-;clear hz' h;go_enter Tryz.func134,Tryz.ntmps134;go_wp2_with fail;go_ret;exact ⟨rfl,rfl⟩
theorem sd (b off len cap k:Nat) (zs:List Int) (w:World) (h:Cel w b off len zs) (hk:k+2<=len) (hl:len<=1048576):
 Calls Tryz.prog 244 #[.slice (some ⟨b,off,none⟩) len cap,.int .u64 k] w fun e w'=>e=.returned (.int .u64 (num ((zs.drop k).take 2)))∧w'=w:=by
 have hb1:=h.2.1 k;have hb2:=h.2.1 (k+1);have HF:Hid (bits .or .u64 (zs[k]?.getD 0) (zs[k+1]?.getD 0*256)=num ((zs.drop k).take 2)):=by
  rw [AD zs k (by have:=h.1;omega)];exact ki 8 256 _ _ rfl hb1.1 (by omega) hb2.1 (by omega) (by omega)
 go_enter Tryz.func244,Tryz.ntmps244;go_wp2_with fail;refine (kz b off len cap k zs w h (by omega) hl).mono ?_;rintro e w' ⟨rfl,rfl⟩;go_wp2_with fail;rw [show ((k:Int)+1)=((k+1:Nat):Int) by omega];refine (kz b off len cap (k+1) zs _ h (by omega) hl).mono ?_;rintro e w' ⟨rfl,rfl⟩;go_wp2_with fail;go_ret;exact ⟨dw HF.out,rfl⟩
theorem se (b off len cap k:Nat) (zs:List Int) (w:World) (h:Cel w b off len zs) (hk:k+4<=len) (hl:len<=1048576):
 Calls Tryz.prog 243 #[.slice (some ⟨b,off,none⟩) len cap,.int .u64 k] w fun e w'=>e=.returned (.int .u64 (num ((zs.drop k).take 4)))∧w'=w:=by
 have hb1:=fC zs k 2 h.2.1;have hb2:=fC zs (k+2) 2 h.2.1;simp at hb1 hb2;have HF:Hid (bits .or .u64 (num ((zs.drop k).take 2)) (num ((zs.drop (k+2)).take 2)*65536)=num ((zs.drop k).take 4)):=by
  rw [un zs k 2 (by have:=h.1;omega)];exact ki 16 65536 _ _ rfl hb1.1 (by omega) hb2.1 (by omega) (by omega)
 go_enter Tryz.func243,Tryz.ntmps243;go_wp2_with fail;refine (sd b off len cap k zs w h (by omega) hl).mono ?_;rintro e w' ⟨rfl,rfl⟩;go_wp2_with fail;rw [show ((k:Int)+2)=((k+2:Nat):Int) by omega];refine (sd b off len cap (k+2) zs _ h (by omega) hl).mono ?_;rintro e w' ⟨rfl,rfl⟩;go_wp2_with fail;go_ret;exact ⟨dw HF.out,rfl⟩
theorem yj (b off len cap k:Nat) (zs:List Int) (w:World) (h:Cel w b off len zs) (hk:k+8<=len) (hl:len<=1048576):
 Calls Tryz.prog 242 #[.slice (some ⟨b,off,none⟩) len cap,.int .u64 k] w fun e w'=>e=.returned (.int .u64 (num ((zs.drop k).take 8)))∧w'=w:=by
 have hb1:=fC zs k 4 h.2.1;have hb2:=fC zs (k+4) 4 h.2.1;simp at hb1 hb2;have HF:Hid (bits .or .u64 (num ((zs.drop k).take 4)) (num ((zs.drop (k+4)).take 4)*4294967296)=num ((zs.drop k).take 8)):=by
  rw [un zs k 4 (by have:=h.1;omega)];exact ki 32 4294967296 _ _ rfl hb1.1 (by omega) hb2.1 (by omega) (by omega)
 go_enter Tryz.func242,Tryz.ntmps242;go_wp2_with fail;refine (se b off len cap k zs w h (by omega) hl).mono ?_;rintro e w' ⟨rfl,rfl⟩;go_wp2_with fail;rw [show ((k:Int)+4)=((k+4:Nat):Int) by omega];refine (se b off len cap (k+4) zs _ h (by omega) hl).mono ?_;rintro e w' ⟨rfl,rfl⟩;go_wp2_with fail;go_ret;exact ⟨dw HF.out,rfl⟩
end Go.Proofs.YtgnnmgfgfihljaaGreat
