import Derived.Test.YtpdddbobhndbjaaGreatPk11
namespace Go.Proofs.YtpdddbobhndbjaaGreat
open Go.RowKit
set_option linter.unusedVariables false
set_option maxHeartbeats 6400000
set_option maxRecDepth 20000
def fz (e:EntM):List Value:=[.int .i64 e.level,.int .u64 e.tag,.int .u64 e.asid,.bool e.glob,.bool e.valid,.int .u64 e.pte]
def dp (e:EntM):Value:=.agg #[.int .i64 e.level,.int .u64 e.tag,.int .u64 e.asid,.bool e.glob,.bool e.valid,.int .u64 e.pte]
def aH:List EntM->List Value
 | []=>[]
 | e::r=>fz e++aH r
theorem et:∀es:List EntM,(aH es).length=es.length*6
 | []=>rfl
 | e::r=>by simp [aH,fz,et r];omega
theorem lQ:∀(es:List EntM) (i j:Nat) (hi:i<es.length),j<6->(aH es)[i*6+j]?=(fz es[i])[j]?
 | e::r,0,j,hi,hj=>by
  simp only [aH,List.getElem_cons_zero,Nat.zero_mul,Nat.zero_add];rw [List.getElem?_append_left (by simp [fz];exact hj)]
 | e::r,i+1,j,hi,hj=>by
  simp only [aH,List.getElem_cons_succ];rw [List.getElem?_append_right (by simp [fz];omega)];rw [show (i+1)*6+j-(fz e).length=i*6+j by simp [fz];omega];exact lQ r i j (by simpa using hi) hj
theorem ic:∀(l:List EntM) (k:Nat) (e:EntM),k<l.length->aH (l.set k e)=((((((aH l).set (k*6) (.int .i64 e.level)).set (k*6+1) (.int .u64 e.tag)).set (k*6+2) (.int .u64 e.asid)).set (k*6+3) (.bool e.glob)).set (k*6+4) (.bool e.valid)).set (k*6+5) (.int .u64 e.pte)
 | x::r,0,e,h=>by simp [aH,fz]
 | x::r,k+1,e,h=>by
  have ih:=ic r k e (by simpa using h);rw [List.set_cons_succ];simp only [aH,ih];rw [show (k+1)*6=(fz x).length+k*6 by simp [fz];omega];simp only [Nat.add_assoc];rw [List.set_append_right _ _ (by simp [fz]),List.set_append_right _ _ (by omega),List.set_append_right _ _ (by omega),List.set_append_right _ _ (by omega),List.set_append_right _ _ (by omega),List.set_append_right _ _ (by omega)];simp
theorem po {e:TypeId} {w:World} {base g n cap:Nat} {es:List EntM} (h:w.ownsRow base e 6 (.slice (some ⟨g,0,none⟩) n cap) n (aH es)) (hn:es.length=n) (k:Nat) (x:EntM) (hx:es[k]?=some x) (j:Nat) (v:Value) (hj:j<6) (hv:(fz x)[j]?=some v):
 w.cell? ⟨g,k*6+j,none⟩=some v:=by
 have hk:=(List.getElem?_eq_some_iff.1 hx).1;refine aB h _ _ ?_;rw [lQ es k j hk hj];obtain ⟨_,rfl⟩:=List.getElem?_eq_some_iff.1 hx;exact hv
def dD (k n:Nat) (es:List EntM):List EntM:=es.take k++List.replicate (n-k) cK
theorem mI (k:Nat) (es:List EntM) (hk:k<=es.length):(dD k es.length es).length=es.length:=by
 simp [dD];omega
theorem pW (k:Nat) (es:List EntM) (x:EntM) (hx:es[k]?=some x):dD (k+1) es.length es=(dD k es.length es).set k x:=by
 obtain ⟨hk,rfl⟩:=List.getElem?_eq_some_iff.1 hx;unfold dD;apply List.ext_getElem?;intro j;rw [List.getElem?_set];by_cases hj:k=j
 ·subst hj;rw [if_pos rfl,if_pos (by simp;omega),List.getElem?_append_left (by simp;omega)];simp [hk]
 ·rw [if_neg hj];by_cases hlt:j<k
  ·rw [List.getElem?_append_left (by simp;omega),List.getElem?_append_left (by simp;omega)];simp [hlt,show j<k+1 by omega]
  ·rw [List.getElem?_append_right (by simp;omega),List.getElem?_append_right (by simp;omega)];simp only [List.length_take,List.getElem?_replicate];rw [show min (k+1) es.length=k+1 by omega,show min k es.length=k by omega];by_cases hh:j<es.length
   ·rw [if_pos (by omega),if_pos (by omega)]
   ·rw [if_neg (by omega),if_neg (by omega)]
theorem vJ (k:Nat) (es:List EntM) (hx:es[k]?=some cK):dD (k+1) es.length es=dD k es.length es:=by
 rw [pW k es cK hx];have hk:=(List.getElem?_eq_some_iff.1 hx).1;apply List.ext_getElem?;intro j;rw [List.getElem?_set];by_cases hj:k=j
 ·subst hj;rw [if_pos rfl,if_pos (by rw [mI _ _ (by omega)];exact hk)];unfold dD;rw [List.getElem?_append_right (by simp;omega)];simp only [List.length_take,List.getElem?_replicate];rw [if_pos (by omega)]
 ·rw [if_neg hj]
theorem xN (es:List EntM):dD es.length es.length es=es:=by
 simp [dD]
theorem un (n:Nat) (es:List EntM):dD 0 n es=List.replicate n cK:=by simp [dD]
theorem ji {B:Nat} {a w:World} {g:Nat} (h:Below B a w) (hg:B<=g) (x y z u v t:Value):Below B a ((((((w.setCell ⟨g,0,none⟩ x).setCell ⟨g,1,none⟩ y).setCell ⟨g,2,none⟩ z).setCell ⟨g,3,none⟩ u).setCell ⟨g,4,none⟩ v).setCell ⟨g,5,none⟩ t):=
 (((fU h hg x y z).setCell (p:=⟨g,3,none⟩) hg u).setCell (p:=⟨g,4,none⟩) hg v).setCell (p:=⟨g,5,none⟩) hg t
theorem iB {v:World} {p:Nat} {T:TypeId} {a b c d e f:Value} (h:v.heap[p]?=some (.cells #[a,b,c,d,e,f] T (0,0))):
 (v.cell? ⟨p,0,none⟩=some a∧v.cell? ⟨p,1,none⟩=some b∧v.cell? ⟨p,2,none⟩=some c∧v.cell? ⟨p,3,none⟩=some d∧v.cell? ⟨p,4,none⟩=some e∧v.cell? ⟨p,5,none⟩=some f)∧
  (v.frozen? ⟨p,0,none⟩=false∧v.frozen? ⟨p,1,none⟩=false∧v.frozen? ⟨p,2,none⟩=false∧v.frozen? ⟨p,3,none⟩=false∧v.frozen? ⟨p,4,none⟩=false∧v.frozen? ⟨p,5,none⟩=false):=by
 simp [World.cell?,World.frozen?,h]
theorem AJ (z:EntM) (n:Nat):(madeCells (fz z).toArray (n*6)).toList=aH (List.replicate n z):=by
 apply List.ext_getElem?;intro j;by_cases hj:j<n*6
 ·have hq:j/6<(List.replicate n z).length:=by simp;omega
  have:=lQ (List.replicate n z) (j/6) (j%6) hq (by omega);rw [show j/6*6+j%6=j by omega] at this;rw [this];have h6:j%6<(fz z).length:=by simp [fz];omega
  simp only [madeCells,List.getElem_replicate];rw [List.getElem?_eq_getElem h6];simp [hj,fz];rw [List.getElem?_eq_getElem (by simpa [fz] using h6)];rfl
 ·rw [List.getElem?_eq_none (by simp [madeCells];omega),List.getElem?_eq_none (by rw [et];simp;omega)]
theorem vN (v:World) (T E:TypeId) (xs cs:Array Value) (ss:List Value) (n:Nat) (hcs:cs.toList=ss) (hn:ss.length=n*6) (hm:n<=maxLen):
 ((v.alloc (.cells cs E)).alloc (.cells xs T)).drew.heap[v.heap.size+1]?=some (.cells xs T (0,0))∧((v.alloc (.cells cs E)).alloc (.cells xs T)).drew.ownsRow v.heap.size E 6 (.slice (some ⟨v.heap.size,0,none⟩) n n) n ss∧
  Bw v ((v.alloc (.cells cs E)).alloc (.cells xs T)).drew∧v.heap.size+1<((v.alloc (.cells cs E)).alloc (.cells xs T)).drew.heap.size:=by
 have hs:cs.size=n*6:=by rw [<-hn,<-hcs];simp
 have h1:=World.ownsRow_lit (e:=E) (size:=6) v cs n (Nat.le_refl v.heap.size) hm hs;rw [hcs] at h1;refine ⟨?_,aj h1 (((Below.refl _ _).alloc nle _).drew),(((Below.refl v.heap.size v).alloc nle _).alloc (by simp) _).drew,?_⟩
 ·have:=heap_alloc_new (v.alloc (.cells cs E)) (.cells xs T);simp only [World.size_alloc] at this;exact this
 ·show _<((v.alloc (.cells cs E)).alloc (.cells xs T)).heap.size;simp
theorem vO (v:World) (T E:TypeId) (xs cs:Array Value) (ss:List Value) (n:Nat) (hcs:cs.toList=ss) (hn:ss.length=n*6) (hm:n<=maxLen):
 ((v.alloc (.cells xs T)).alloc (.cells cs E)).drew.heap[v.heap.size]?=some (.cells xs T (0,0))∧((v.alloc (.cells xs T)).alloc (.cells cs E)).drew.ownsRow v.heap.size E 6 (.slice (some ⟨v.heap.size+1,0,none⟩) n n) n ss∧
  Bw v ((v.alloc (.cells xs T)).alloc (.cells cs E)).drew∧v.heap.size<((v.alloc (.cells xs T)).alloc (.cells cs E)).drew.heap.size:=by
 have hs:cs.size=n*6:=by rw [<-hn,<-hcs];simp
 have h1:=World.ownsRow_lit (e:=E) (size:=6) (v.alloc (.cells xs T)) cs n (base:=v.heap.size) (by simp) hm hs;rw [hcs] at h1;simp only [World.size_alloc] at h1;refine ⟨?_,h1,(((Below.refl v.heap.size v).alloc nle _).alloc (by simp) _).drew,?_⟩
 ·show ((v.alloc (.cells xs T)).alloc (.cells cs E)).heap[v.heap.size]?=_;rw [heap_alloc_old _ _ (by simp)];exact heap_alloc_new v _
 ·show _<((v.alloc (.cells xs T)).alloc (.cells cs E)).heap.size;simp;omega
theorem iM {w:World} {g n:Nat} {es:List EntM} (h:RowC w (some ⟨g,0,none⟩) n 6 (aH es)) (hn:es.length=n) (k:Nat) (x:EntM) (hx:es[k]?=some x) (j:Nat) (v:Value) (hj:j<6) (hv:(fz x)[j]?=some v):
 w.cell? ⟨g,k*6+j,none⟩=some v:=by
 have hk:=(List.getElem?_eq_some_iff.1 hx).1;rcases h.2 with h0 | ⟨b',off',e,_,hc⟩
 ·omega
 ·simp at e;obtain ⟨rfl,rfl⟩:=e;have:=hc (k*6+j) v (by
   rw [lQ es k j hk hj];obtain ⟨_,rfl⟩:=List.getElem?_eq_some_iff.1 hx;exact hv)
  rw [Nat.zero_add] at this;exact this
theorem tE {w w':World} {r:Option Nat} (h:Bw w w'):w.grownBy w' r:=
 ⟨h.os,h.tape,h.output,h.size,fun i hi _=>h.block i hi⟩
theorem qJ (w:World) (r:Option Nat):w.grownBy w.drew r:=tE (Below.refl _ _).drew
theorem DA {B:Nat} {a w:World} {g:Nat} (h:Below B a w) (hg:B<=g) (x y z u:Value):Below B a ((((w.setCell ⟨g,0,none⟩ x).setCell ⟨g,1,none⟩ y).setCell ⟨g,2,none⟩ z).setCell ⟨g,3,none⟩ u):=
 (fU h hg x y z).setCell (p:=⟨g,3,none⟩) hg u
theorem ij {v:World} {p:Nat} {cs:Array Value} {T:TypeId} (h:v.heap[p]?=some (.cells cs T (0,0))) (i:Nat) (x:Value) (hx:cs[i]?=some x):v.cell? ⟨p,i,none⟩=some x:=by
 simp [World.cell?,h,hx]
def Keeps (w w':World) (x y z:Nat):Prop:=
 w'.os=w.os∧w'.tape=w.tape∧w'.output=w.output∧w.heap.size<=w'.heap.size∧∀i,i<w.heap.size->i≠x->i≠y->i≠z->w'.heap[i]?=w.heap[i]?
theorem Keeps.refl (w:World) (x y z:Nat):Keeps w w x y z:=⟨rfl,rfl,rfl,nle,fun _ _ _ _ _=>rfl⟩
theorem Keeps.of_below {w w':World} (x y z:Nat) (h:Bw w w'):Keeps w w' x y z:=⟨h.os,h.tape,h.output,h.size,fun i hi _ _ _=>h.block i hi⟩
theorem Keeps.of_gb {w w':World} {r:Nat} (x y z:Nat) (h:w.grownBy w' (some r)) (hr:r=x∨r=y∨r=z):Keeps w w' x y z:=
 ⟨h.os,h.tape,h.output,h.size,fun i hi h1 h2 h3=>h.block i hi (by
  simp only [ne_eq,Option.some.injEq];rcases hr with rfl | rfl | rfl <;> (intro e;subst e;contradiction))⟩
theorem Keeps.trans {a b c:World} {x y z:Nat} (h:Keeps a b x y z) (k:Keeps b c x y z):Keeps a c x y z:=
 ⟨k.1.trans h.1,k.2.1.trans h.2.1,k.2.2.1.trans h.2.2.1,Nat.le_trans h.2.2.2.1 k.2.2.2.1,fun i hi h1 h2 h3=>(k.2.2.2.2 i (Nat.lt_of_lt_of_le hi h.2.2.2.1) h1 h2 h3).trans (h.2.2.2.2 i hi h1 h2 h3)⟩
theorem Keeps.heap {w w':World} {x y z i:Nat} {o:Obj} (h:Keeps w w' x y z) (hi:w.heap[i]?=some o) (h1:i≠x) (h2:i≠y) (h3:i≠z):w'.heap[i]?=some o:=
 (h.2.2.2.2 i (hpl hi) h1 h2 h3).trans hi
theorem Keeps.below {w w' a:World} {B x y z:Nat} (hb:Below B a w) (h:Keeps w w' x y z) (hB:B<=w.heap.size) (h1:B<=x) (h2:B<=y) (h3:B<=z):Below B a w':=
 hb.trans ⟨h.1,h.2.1,h.2.2.1,h.2.2.2.1,fun k hk=>h.2.2.2.2 k (by omega) (by omega) (by omega) (by omega)⟩
def gP (k:KM) (gi gd gp:Nat):Array Value:=
 #[.int .i64 k.i.sets,.int .i64 k.i.ways,.slice (some ⟨gi,0,none⟩) k.i.es.length k.i.es.length,.int .i64 k.d.sets,.int .i64 k.d.ways,.slice (some ⟨gd,0,none⟩) k.d.es.length k.d.es.length,.int .i64 k.p.sets,.int .i64 k.p.ways,.slice (some ⟨gp,0,none⟩) k.p.es.length k.p.es.length]
def RowsAt (w:World) (base gi gd gp:Nat) (k:KM):Prop:=
 w.ownsRow base 190 6 (.slice (some ⟨gi,0,none⟩) k.i.es.length k.i.es.length) k.i.es.length (aH k.i.es)∧
 w.ownsRow base 190 6 (.slice (some ⟨gd,0,none⟩) k.d.es.length k.d.es.length) k.d.es.length (aH k.d.es)∧
 w.ownsRow base 195 6 (.slice (some ⟨gp,0,none⟩) k.p.es.length k.p.es.length) k.p.es.length (aH k.p.es)∧gi≠gd∧gi≠gp∧gd≠gp
theorem RowsAt.keep {w w':World} {base gi gd gp:Nat} {k:KM} (h:RowsAt w base gi gd gp k) (hb:Bw w w'):RowsAt w' base gi gd gp k:=
 ⟨aj h.1 hb,aj h.2.1 hb,aj h.2.2.1 hb,h.2.2.2⟩
theorem ma {e:TypeId} {size:Nat} {w w':World} {base n r g c:Nat} {cs:List Value} (h:w.ownsRow base e size (.slice (some ⟨g,0,none⟩) n c) n cs) (hg:w.grownBy w' (some r)) (hr:g≠r):w'.ownsRow base e size (.slice (some ⟨g,0,none⟩) n c) n cs:=by
 refine h.kept hg (.inr ?_);simp [Value.ownBlock];exact hr
theorem RowsAt.putP {w w':World} {base gi gd gp:Nat} {k:KM} {es:List EntM} (h:RowsAt w base gi gd gp k) (hg:w.grownBy w' (some gp)) (hl:es.length=k.p.es.length) (ho:w'.ownsRow base 195 6 (.slice (some ⟨gp,0,none⟩) k.p.es.length k.p.es.length) k.p.es.length (aH es)):
 RowsAt w' base gi gd gp ⟨k.i,k.d,⟨k.p.sets,k.p.ways,es⟩⟩:=by
 obtain ⟨h1,h2,h3,d1,d2,d3⟩:=h;refine ⟨ma h1 hg d2,ma h2 hg d3,?_,d1,d2,d3⟩;simp only;rw [hl];exact ho
theorem RowsAt.putI {w w':World} {base gi gd gp:Nat} {k:KM} {es:List EntM} (h:RowsAt w base gi gd gp k) (hg:w.grownBy w' (some gi)) (hl:es.length=k.i.es.length) (ho:w'.ownsRow base 190 6 (.slice (some ⟨gi,0,none⟩) k.i.es.length k.i.es.length) k.i.es.length (aH es)):
 RowsAt w' base gi gd gp ⟨⟨k.i.sets,k.i.ways,es⟩,k.d,k.p⟩:=by
 obtain ⟨h1,h2,h3,d1,d2,d3⟩:=h;refine ⟨?_,ma h2 hg (Ne.symm d1),ma h3 hg (Ne.symm d2),d1,d2,d3⟩;simp only;rw [hl];exact ho
theorem RowsAt.putD {w w':World} {base gi gd gp:Nat} {k:KM} {es:List EntM} (h:RowsAt w base gi gd gp k) (hg:w.grownBy w' (some gd)) (hl:es.length=k.d.es.length) (ho:w'.ownsRow base 190 6 (.slice (some ⟨gd,0,none⟩) k.d.es.length k.d.es.length) k.d.es.length (aH es)):
 RowsAt w' base gi gd gp ⟨k.i,⟨k.d.sets,k.d.ways,es⟩,k.p⟩:=by
 obtain ⟨h1,h2,h3,d1,d2,d3⟩:=h;refine ⟨ma h1 hg d1,?_,ma h3 hg (Ne.symm d3),d1,d2,d3⟩;simp only;rw [hl];exact ho
def SetAt (w:World) (b base gi gd gp:Nat) (k:KM):Prop:=
 w.heap[b]?=some (.cells (gP k gi gd gp) 73 (0,0))∧RowsAt w base gi gd gp k∧b≠gi∧b≠gd∧b≠gp
theorem SetAt.keep {w w':World} {b base gi gd gp:Nat} {k:KM} (h:SetAt w b base gi gd gp k) (hb:Bw w w'):SetAt w' b base gi gd gp k:=
 ⟨ae h.1 hb (hpl h.1),h.2.1.keep hb,h.2.2⟩
theorem SetAt.lt {w:World} {b base gi gd gp:Nat} {k:KM} (h:SetAt w b base gi gd gp k):b<w.heap.size:=(hpl h.1)
theorem SetAt.cellI {w:World} {b base gi gd gp:Nat} {k:KM} (h:SetAt w b base gi gd gp k):
 w.cell? ⟨b,0,none⟩=some (.int .i64 k.i.sets)∧w.cell? ⟨b,0+1,none⟩=some (.int .i64 k.i.ways)∧w.cell? ⟨b,0+2,none⟩=some (.slice (some ⟨gi,0,none⟩) k.i.es.length k.i.es.length):=
 ⟨ij h.1 0 _ rfl,ij h.1 1 _ rfl,ij h.1 2 _ rfl⟩
theorem SetAt.cellD {w:World} {b base gi gd gp:Nat} {k:KM} (h:SetAt w b base gi gd gp k):
 w.cell? ⟨b,3,none⟩=some (.int .i64 k.d.sets)∧w.cell? ⟨b,3+1,none⟩=some (.int .i64 k.d.ways)∧w.cell? ⟨b,3+2,none⟩=some (.slice (some ⟨gd,0,none⟩) k.d.es.length k.d.es.length):=
 ⟨ij h.1 3 _ rfl,ij h.1 4 _ rfl,ij h.1 5 _ rfl⟩
theorem SetAt.cellP {w:World} {b base gi gd gp:Nat} {k:KM} (h:SetAt w b base gi gd gp k):
 w.cell? ⟨b,6,none⟩=some (.int .i64 k.p.sets)∧w.cell? ⟨b,6+1,none⟩=some (.int .i64 k.p.ways)∧w.cell? ⟨b,6+2,none⟩=some (.slice (some ⟨gp,0,none⟩) k.p.es.length k.p.es.length):=
 ⟨ij h.1 6 _ rfl,ij h.1 7 _ rfl,ij h.1 8 _ rfl⟩
def CellsM (w:World) (b:Nat) (A:Array Value):Prop:=
 ∃C,w.heap[b]?=some (.cells C 77 (0,0))∧∀(i:Nat) (v:Value),A[i]?=some v->C[20+i]?=some v
theorem CellsM.keep {w w':World} {b:Nat} {A:Array Value} (h:CellsM w b A) (hb:Bw w w'):CellsM w' b A:=by
 obtain ⟨C,h1,h2⟩:=h;exact ⟨C,ae h1 hb (hpl h1),h2⟩
theorem CellsM.gb {w w':World} {b r:Nat} {A:Array Value} (h:CellsM w b A) (hg:w.grownBy w' (some r)) (hne:b≠r):CellsM w' b A:=by
 obtain ⟨C,h1,h2⟩:=h;exact ⟨C,aC h1 hg hne,h2⟩
theorem CellsM.cell {w:World} {b:Nat} {A:Array Value} (h:CellsM w b A) (i j:Nat) (v:Value) (hv:A[i]?=some v) (hj:20+i=j):w.cell? ⟨b,j,none⟩=some v:=by
 obtain ⟨C,h1,h2⟩:=h;subst hj;exact ij h1 _ v (h2 i v hv)
def SetM (w:World) (b base gi gd gp:Nat) (k:KM):Prop:=
 CellsM w b (gP k gi gd gp)∧RowsAt w base gi gd gp k∧b≠gi∧b≠gd∧b≠gp
theorem SetM.keep {w w':World} {b base gi gd gp:Nat} {k:KM} (h:SetM w b base gi gd gp k) (hb:Bw w w'):SetM w' b base gi gd gp k:=
 ⟨h.1.keep hb,h.2.1.keep hb,h.2.2⟩
theorem SetM.lt {w:World} {b base gi gd gp:Nat} {k:KM} (h:SetM w b base gi gd gp k):b<w.heap.size:=by
 obtain ⟨C,h1,_⟩:=h.1;exact (hpl h1)
theorem SetM.cellI {w:World} {b base gi gd gp:Nat} {k:KM} (h:SetM w b base gi gd gp k):
 w.cell? ⟨b,20,none⟩=some (.int .i64 k.i.sets)∧w.cell? ⟨b,20+1,none⟩=some (.int .i64 k.i.ways)∧w.cell? ⟨b,20+2,none⟩=some (.slice (some ⟨gi,0,none⟩) k.i.es.length k.i.es.length):=
 ⟨h.1.cell 0 _ _ rfl rfl,h.1.cell 1 _ _ rfl rfl,h.1.cell 2 _ _ rfl rfl⟩
theorem SetM.cellD {w:World} {b base gi gd gp:Nat} {k:KM} (h:SetM w b base gi gd gp k):
 w.cell? ⟨b,23,none⟩=some (.int .i64 k.d.sets)∧w.cell? ⟨b,23+1,none⟩=some (.int .i64 k.d.ways)∧w.cell? ⟨b,23+2,none⟩=some (.slice (some ⟨gd,0,none⟩) k.d.es.length k.d.es.length):=
 ⟨h.1.cell 3 _ _ rfl rfl,h.1.cell 4 _ _ rfl rfl,h.1.cell 5 _ _ rfl rfl⟩
theorem SetM.cellP {w:World} {b base gi gd gp:Nat} {k:KM} (h:SetM w b base gi gd gp k):
 w.cell? ⟨b,26,none⟩=some (.int .i64 k.p.sets)∧w.cell? ⟨b,26+1,none⟩=some (.int .i64 k.p.ways)∧w.cell? ⟨b,26+2,none⟩=some (.slice (some ⟨gp,0,none⟩) k.p.es.length k.p.es.length):=
 ⟨h.1.cell 6 _ _ rfl rfl,h.1.cell 7 _ _ rfl rfl,h.1.cell 8 _ _ rfl rfl⟩
def go:List (Nat × Int)->List Int->List Int
 | [],m=>m
 | o::os,m=>(go os m).set o.1 o.2
theorem pE:∀(ol:List (Nat × Int)) (x:Nat × Int) (m:List Int),go (ol++[x]) m=go ol (m.set x.1 x.2)
 | [],x,m=>rfl
 | o::os,x,m=>by simp only [List.cons_append,go,pE os x m]
theorem wK:∀(ol:List (Nat × Int)) (m:List Int),(go ol m).length=m.length
 | [],m=>rfl
 | o::os,m=>by simp only [go,List.length_set,wK os m]
theorem yb (ol:List (Nat × Int)) (a:Nat) (v:Int) (m:List Int):go (ol++[(a,m[a]?.getD 0)]) (m.set a v)=go ol m:=by
 rw [pE];simp only [List.set_set];by_cases h:a<m.length
 ·rw [List.getElem?_eq_getElem h,Option.getD_some,List.set_getElem_self]
 ·rw [List.set_eq_of_length_le (by omega)]
def BytM (zs:List Int):Prop:=∀i:Nat,0<=zs[i]?.getD 0∧zs[i]?.getD 0<=255
theorem BytM.set {zs:List Int} (h:BytM zs) (k:Nat) (z:Int) (h0:0<=z) (h1:z<=255):BytM (zs.set k z):=by
 refine fY fun x hx=>?_;rcases List.mem_or_eq_of_mem_set hx with hx | rfl
 ·exact fZ h x hx
 ·exact ⟨h0,h1⟩
def sY (mem:List Int) (pa j:Nat):List Int:=(mem.drop pa).take j
theorem zO (mem:List Int) (pa j:Nat) (h:pa+j<mem.length):sY mem pa (j+1)=sY mem pa j++[mem[pa+j]?.getD 0]:=by
 unfold sY;rw [List.take_succ_eq_append_getElem (by simp;omega)];simp [h]
theorem Bb (mem:List Int) (pa j:Nat) (h:pa+j<=mem.length):(sY mem pa j).length=j:=by
 simp [sY];omega
theorem jS (mem:List Int):∀(a b:List bF),cz mem (a++b)=cz mem a++cz mem b
 | [],b=>rfl
 | p::a,b=>by simp only [List.cons_append,cz,jS mem a b,List.append_assoc]
def sk (mem:List Int) (ps:List bF):Prop:=∀p∈ps,fA mem.length p.2.2 p.2.1=true
theorem oD {mem:List Int}:∀{ps:List bF},sk mem ps->fN mem ps=none
 | [],_=>rfl
 | q::ps,h=>by
  unfold fN;rw [if_pos (h q (by simp)),oD fun p hp=>h p (by simp [hp])]
theorem qL {mem:List Int}:∀{a:List bF} {p:bF} {b:List bF},sk mem a->fA mem.length p.2.2 p.2.1=false->fN mem (a++p::b)=some p.1
 | [],p,b,_,h=>by simp only [List.nil_append,fN];rw [if_neg (by rw [h];simp)]
 | q::a,p,b,ha,h=>by
  simp only [List.cons_append,fN];rw [if_pos (ha q (by simp)),qL (fun x hx=>ha x (by simp [hx])) h]
theorem Bc (xs:List Int) (y:Int):num (xs++[y])=num xs+y*256^xs.length:=by
 rw [mE];simp [num,Int.mul_comm]
theorem Bd (mem:List Int) (pa j:Nat) (x:Int) (h:pa+j<mem.length):(put mem pa (da x j)).set (pa+j) (x/256^j%256)=put mem pa (da x (j+1)):=by
 rw [Cd _ _ _ (by rw [yn _ _ _ (by rw [gz];omega)];exact h)];have:=Aq mem pa j 1 x (by omega);rw [<-this];rfl
theorem tQ (n m:Nat) (x:Int) (h:n<=m):(da x m).take n=da x n:=by
 obtain ⟨k,rfl⟩:=Nat.le.dest h;rw [rn,List.take_append_of_le_length (by rw [gz];exact nle),List.take_of_length_le (by rw [gz];exact nle)]
theorem tR (n m:Nat) (x:Int):(da x (n+m)).drop n=da (x/256^n) m:=by
 rw [rn,List.drop_append,List.drop_of_length_le (by rw [gz];exact nle),gz,Nat.sub_self];simp
def bP:List bF->Nat
 | []=>0
 | p::ps=>p.2.1.toNat+bP ps
theorem qj (mem:List Int):∀(a:List bF) (mem:List Int) (b:List bF) (x:Int) (m:Nat),iz mem (a++b) (da x (bP a+m))=iz (iz mem a (da x (bP a))) b (da (x/256^bP a) m)
 | [],mem,b,x,m=>by simp [iz,bP]
 | p::a,mem,b,x,m=>by
  simp only [List.cons_append,iz,bP];rw [tQ _ _ x (by omega),tQ _ _ x (by omega),show p.2.1.toNat+bP a+m=p.2.1.toNat+(bP a+m) by omega,tR,tR,qj mem a];congr 2;rw [Int.pow_add,<-Int.ediv_ediv_of_nonneg (Int.le_of_lt (Int.pow_pos (by omega)))]
structure Kp (O:Nat->Prop) (w w':World):Prop where
 os:w'.os=w.os
 tape:w'.tape=w.tape
 output:w'.output=w.output
 size:w.heap.size<=w'.heap.size
 block:∀i,i<w.heap.size->¬O i->w'.heap[i]?=w.heap[i]?
theorem Kp.refl (O:Nat->Prop) (w:World):Kp O w w:=⟨rfl,rfl,rfl,nle,fun _ _ _=>rfl⟩
theorem Kp.trans {O:Nat->Prop} {a b c:World} (h:Kp O a b) (k:Kp O b c):Kp O a c:=
 ⟨k.os.trans h.os,k.tape.trans h.tape,k.output.trans h.output,Nat.le_trans h.size k.size,fun i hi ho=>(k.block i (Nat.lt_of_lt_of_le hi h.size) ho).trans (h.block i hi ho)⟩
theorem Kp.trans' {O O':Nat->Prop} {a b c:World} (h:Kp O a b) (k:Kp O' b c) (ho:∀i,i<a.heap.size->O' i->O i):Kp O a c:=
 ⟨k.os.trans h.os,k.tape.trans h.tape,k.output.trans h.output,Nat.le_trans h.size k.size,fun i hi hn=>(k.block i (Nat.lt_of_lt_of_le hi h.size) fun h'=>hn (ho i hi h')).trans (h.block i hi hn)⟩
theorem Kp.mono {O O':Nat->Prop} {a b:World} (h:Kp O a b) (ho:∀i,O i->O' i):Kp O' a b:=
 ⟨h.os,h.tape,h.output,h.size,fun i hi hn=>h.block i hi fun h'=>hn (ho i h')⟩
theorem Kp.of_below {w w':World} (O:Nat->Prop) (h:Bw w w'):Kp O w w':=⟨h.os,h.tape,h.output,h.size,fun i hi _=>h.block i hi⟩
theorem Kp.of_gb {w w':World} {O:Nat->Prop} {r:Nat} (h:w.grownBy w' (some r)) (hr:O r):Kp O w w':=
 ⟨h.os,h.tape,h.output,h.size,fun i hi hn=>h.block i hi (by
  intro e;have:r=i:=by simpa using e.symm
  subst this;exact hn hr)⟩
theorem Kp.of_keeps {w w':World} {O:Nat->Prop} {x y z:Nat} (h:Keeps w w' x y z) (hx:O x) (hy:O y) (hz:O z):Kp O w w':=
 ⟨h.1,h.2.1,h.2.2.1,h.2.2.2.1,fun i hi hn=>h.2.2.2.2 i hi (by rintro rfl;exact hn hx) (by rintro rfl;exact hn hy) (by rintro rfl;exact hn hz)⟩
theorem Kp.heap {O:Nat->Prop} {w w':World} {i:Nat} {o:Obj} (h:Kp O w w') (hi:w.heap[i]?=some o) (ho:¬O i):w'.heap[i]?=some o:=
 (h.block i (hpl hi) ho).trans hi
theorem Kp.hid {O:Nat->Prop} {w w':World} {i:Nat} {o:Obj} (h:Hid (w.heap[i]?=some o)) (k:Kp O w w') (ho:¬O i):Hid (w'.heap[i]?=some o):=k.heap h.out ho
theorem Kp.blk {O:Nat->Prop} {w w':World} {e:TypeId} {g:Nat} {zs:List Int} (h:Kp O w w') (hb:Blk e w g zs) (ho:¬O g):Blk e w' g zs:=h.heap hb ho
theorem Kp.own {O:Nat->Prop} {w w':World} {e:TypeId} {size base n:Nat} {s:Value} {cs:List Value} (h:Kp O w w') (ho:w.ownsRow base e size s n cs) (hn:∀g,s.ownBlock=some g->¬O g):w'.ownsRow base e size s n cs:=by
 obtain ⟨h1,h2⟩:=ho;refine ⟨h1,?_⟩;rcases h2 with h2 | ⟨g',cap',cur,h2,hb,hh,r⟩
 ·exact .inl h2
 ·exact .inr ⟨g',cap',cur,h2,hb,h.heap hh (hn g' (by rw [h2];rfl)),r⟩
theorem Kp.below {O:Nat->Prop} {B:Nat} {a w w':World} (hb:Below B a w) (h:Kp O w w') (hB:B<=w.heap.size) (ho:∀i,O i->B<=i):Below B a w':=
 hb.trans ⟨h.os,h.tape,h.output,h.size,fun k hk=>h.block k (by omega) fun h'=>by have:=ho k h';omega⟩
theorem Kp.rows {O:Nat->Prop} {w w':World} {base gi gd gp:Nat} {k:KM} (h:Kp O w w') (hr:RowsAt w base gi gd gp k) (h1:¬O gi) (h2:¬O gd) (h3:¬O gp):RowsAt w' base gi gd gp k:=
 ⟨h.own hr.1 fun g e=>by cases e;exact h1,h.own hr.2.1 fun g e=>by cases e;exact h2,h.own hr.2.2.1 fun g e=>by cases e;exact h3,hr.2.2.2⟩
def gc (h:HartM):Array Value:=#[.int .u64 (h.regs[0]?.getD 0),.int .u64 (h.regs[1]?.getD 0),.int .u64 (h.regs[2]?.getD 0),.int .u64 (h.regs[3]?.getD 0),.int .u64 (h.regs[4]?.getD 0),.int .u64 (h.regs[5]?.getD 0),.int .u64 (h.regs[6]?.getD 0),.int .u64 (h.regs[7]?.getD 0),
 .int .u64 h.pc,.int .i64 h.mode,.bool h.sum,.bool h.mxr,.int .u64 h.satp,.int .u64 h.tvec,.int .u64 h.epc,.int .i64 h.emode,.int .i64 h.cause,.int .u64 h.tval]
def cJ (h:HartM) (gm:Nat) (ov:Value) (gi gd gp:Nat) (pv:Value):Array Value:=#[.int .u64 (h.regs[0]?.getD 0),.int .u64 (h.regs[1]?.getD 0),.int .u64 (h.regs[2]?.getD 0),.int .u64 (h.regs[3]?.getD 0),.int .u64 (h.regs[4]?.getD 0),.int .u64 (h.regs[5]?.getD 0),.int .u64 (h.regs[6]?.getD 0),.int .u64 (h.regs[7]?.getD 0),
 .int .u64 h.pc,.int .i64 h.mode,.bool h.sum,.bool h.mxr,.int .u64 h.satp,.int .u64 h.tvec,.int .u64 h.epc,.int .i64 h.emode,.int .i64 h.cause,.int .u64 h.tval,
 .slice (some ⟨gm,0,none⟩) h.mem.length h.mem.length,ov,
 .int .i64 h.k.i.sets,.int .i64 h.k.i.ways,.slice (some ⟨gi,0,none⟩) h.k.i.es.length h.k.i.es.length,.int .i64 h.k.d.sets,.int .i64 h.k.d.ways,.slice (some ⟨gd,0,none⟩) h.k.d.es.length h.k.d.es.length,.int .i64 h.k.p.sets,.int .i64 h.k.p.ways,.slice (some ⟨gp,0,none⟩) h.k.p.es.length h.k.p.es.length,pv]
def mp:List (Nat × Int)->List Value
 | []=>[]
 | o::os=>.int .u64 o.1::.int .u64 o.2::mp os
theorem pS:∀a b:List (Nat × Int),mp (a++b)=mp a++mp b
 | [],b=>rfl
 | o::a,b=>by simp [mp,pS a b]
theorem vu:∀a:List (Nat × Int),(mp a).length=a.length*2
 | []=>rfl
 | o::a=>by simp [mp,vu a];omega
structure MP where
 b:Nat
 gm:Nat
 gi:Nat
 gd:Nat
 gp:Nat
 pd:TypeId
 px:Value
def MP.pv (m:MP):Value:=.iface m.pd m.px
structure MW (w:World) (O X:Nat->Prop) (m:MP) (ov:Value) (h:HartM) (ol:List (Nat × Int)):Prop where
 blk:w.heap[m.b]?=some (.cells (cJ h m.gm ov m.gi m.gd m.gp m.pv) 77 (0,0))
 mem:Blk 5 w m.gm h.mem
 old:w.ownsRow 0 156 2 ov ol.length (mp ol)
 ob:O m.b
 om:O m.gm
 oo:∀g,ov.ownBlock=some g->O g∧g≠m.b∧g≠m.gm∧¬X g
 bm:m.b≠m.gm
 xb:¬X m.b
 xm:¬X m.gm
 xo:∀i,X i->O i∧i<w.heap.size
 byt:BytM h.mem
 len:h.mem.length<=4096
 regs:h.regs.length=8
 oll:ol.length<=16
 sh:∃n c a,ov=.slice a n c
 obd:∀i,O i->i<w.heap.size
 oln:∀o∈ol,o.1<h.mem.length∧0<=o.2∧o.2<=255
theorem MW.lt {w:World} {O X:Nat->Prop} {m:MP} {ov:Value} {h:HartM} {ol:List (Nat × Int)} (k:MW w O X m ov h ol):m.b<w.heap.size:=(hpl k.blk)
theorem MW.keep {w w':World} {O X:Nat->Prop} {m:MP} {ov:Value} {h:HartM} {ol:List (Nat × Int)} (k:MW w O X m ov h ol) (hk:Kp X w w'):MW w' O X m ov h ol:=
 ⟨hk.heap k.blk k.xb,hk.blk k.mem k.xm,hk.own k.old fun g e=>(k.oo g e).2.2.2,k.ob,k.om,k.oo,k.bm,k.xb,k.xm,fun i hi=>⟨(k.xo i hi).1,Nat.lt_of_lt_of_le (k.xo i hi).2 hk.size⟩,k.byt,k.len,k.regs,k.oll,k.sh,fun i hi=>Nat.lt_of_lt_of_le (k.obd i hi) hk.size,k.oln⟩
theorem MW.low {w w':World} {O X:Nat->Prop} {m:MP} {ov:Value} {h:HartM} {ol:List (Nat × Int)} (k:MW w O X m ov h ol) (hb:Bw w w'):MW w' O X m ov h ol:=k.keep (Kp.of_below X hb)
theorem MW.withK {w:World} {O X:Nat->Prop} {m:MP} {ov:Value} {h:HartM} {ol:List (Nat × Int)} (k:MW w O X m ov h ol) {q:KM} (hq:gP q m.gi m.gd m.gp=gP h.k m.gi m.gd m.gp):MW w O X m ov (withK h q) ol:=by
 refine ⟨?_,k.mem,k.old,k.ob,k.om,k.oo,k.bm,k.xb,k.xm,k.xo,k.byt,k.len,k.regs,k.oll,k.sh,k.obd,k.oln⟩;have e:cJ (Go.Proofs.YtpdddbobhndbjaaGreat.withK h q) m.gm ov m.gi m.gd m.gp m.pv=cJ h m.gm ov m.gi m.gd m.gp m.pv:=by
  simp only [gP,Array.mk.injEq,List.cons.injEq,Value.int.injEq,Value.slice.injEq,true_and,and_true] at hq;simp only [cJ,Go.Proofs.YtpdddbobhndbjaaGreat.withK,hq]
 rw [e];exact k.blk
theorem MW.cells {w:World} {O X:Nat->Prop} {m:MP} {ov:Value} {h:HartM} {ol:List (Nat × Int)} (k:MW w O X m ov h ol):CellsM w m.b (gP h.k m.gi m.gd m.gp):=by
 refine ⟨_,k.blk,?_⟩;intro i v hv;rcases (show i=0∨i=1∨i=2∨i=3∨i=4∨i=5∨i=6∨i=7∨i=8∨9<=i by omega) with rfl | rfl | rfl | rfl | rfl | rfl | rfl | rfl | rfl | hi;all_goals first
  | exact hv
  | (rw [Array.getElem?_eq_none (by simp [gP];omega)] at hv;cases hv)
theorem bB {w:World} {b i:Nat} {A:Array Value} {T:TypeId} {v:Value} (h:w.heap[b]?=some (.cells A T (0,0))):(w.setCell ⟨b,i,none⟩ v).heap[b]?=some (.cells (A.setIfInBounds i v) T (0,0)):=by
 simp [World.setCell,Array.getElem?_modify,h]
theorem MW.put {w w':World} {O X:Nat->Prop} {m:MP} {ov:Value} {h h':HartM} {ol:List (Nat × Int)} (k:MW w O X m ov h ol) (hg:w.grownBy w' (some m.b)) (hb:w'.heap[m.b]?=some (.cells (cJ h' m.gm ov m.gi m.gd m.gp m.pv) 77 (0,0))) (hm:h'.mem=h.mem) (hr:h'.regs.length=8):MW w' O X m ov h' ol:=by
 refine ⟨hb,?_,?_,k.ob,k.om,k.oo,k.bm,k.xb,k.xm,fun i hi=>⟨(k.xo i hi).1,Nat.lt_of_lt_of_le (k.xo i hi).2 hg.size⟩,by rw [hm];exact k.byt,by rw [hm];exact k.len,hr,k.oll,k.sh,fun i hi=>Nat.lt_of_lt_of_le (k.obd i hi) hg.size,by rw [hm];exact k.oln⟩
 ·rw [hm];exact Blk.gb k.mem hg (Ne.symm k.bm)
 ·have hk:Kp (fun i=>i=m.b) w w':=Kp.of_gb hg rfl;exact hk.own k.old fun g e=>(k.oo g e).2.1
theorem jX (level:Int) (w:World) (hl:level=0∨level=1∨level=2):
 Calls Tryz.prog 129 #[.int .i64 level] w fun e w'=>e=.returned (.int .u64 (kQ level-1))∧w'=w:=by
 rcases hl with rfl | rfl | rfl;all_goals
  go_enter Tryz.func129,Tryz.ntmps129;go_wp2_with (go_at_call 81;refine (dt 15 32767 _ (by omega)).mono ?_;rintro e w' ⟨rfl,rfl⟩);go_ret;exact ⟨dH (by decide),rfl⟩
theorem xJ (va level:Int) (w:World) (hv0:0<=va) (hv1:va<=18446744073709551615) (hl:level=0∨level=1∨level=2):
 Calls Tryz.prog 134 #[.int .u64 va,.int .i64 level] w fun e w'=>e=.returned (.int .u64 (fJ va level))∧∃n,w'=w.drewN n:=by
 rcases hl with rfl | rfl | rfl
 ·have H:=hid (eE 9 (va/64) 511 rfl (by omega) (by omega) (by omega));go_enter Tryz.func134,Tryz.ntmps134;go_wp2_with fail;go_quiet ((go_at_call 129;exact Calls.quiet_of_same (jX 0 _ (by omega))));go_wp2_with fail;go_ret;exact ⟨dH H.out,nq,rfl⟩
 ·have H:=hid (eE 6 (va/512) 63 rfl (by omega) (by omega) (by omega));go_enter Tryz.func134,Tryz.ntmps134;go_wp2_with fail;go_quiet ((go_at_call 129;exact Calls.quiet_of_same (jX 1 _ (by omega))));go_wp2_with fail;go_ret;exact ⟨dH H.out,nq,rfl⟩
 ·have H:=hid (eE 3 (va/4096) 7 rfl (by omega) (by omega) (by omega));go_enter Tryz.func134,Tryz.ntmps134;go_wp2_with fail;go_quiet ((go_at_call 129;exact Calls.quiet_of_same (jX 2 _ (by omega))));go_wp2_with fail;go_ret;exact ⟨dH H.out,nq,rfl⟩
theorem lN (satp:Int) (w:World) (h0:0<=satp) (h1:satp<=18446744073709551615):
 Calls Tryz.prog 164 #[.int .u64 satp] w fun e w'=>e=.returned (.int .u64 (aM satp))∧w'=w:=by
 have H:=hid (eE 16 (satp/17592186044416) 65535 rfl (by omega) (by omega) (by omega));go_enter Tryz.func164,Tryz.ntmps164;go_wp2_with (go_at_call 81;refine (dt 16 65535 _ (by omega)).mono ?_;rintro e w' ⟨rfl,rfl⟩);go_ret;exact ⟨dH H.out,rfl⟩
theorem xK (x level:Int) (w:World) (h0:0<=x) (h1:x<=18446744073709551615):
 Calls Tryz.prog 192 #[.int .u64 x,.int .i64 level] w fun e w'=>e=.returned (.bool (bC x level == 2))∧w'=w:=by
 go_enter Tryz.func192,Tryz.ntmps192;go_wp2_with (go_at_call 187;refine (nX x level _ h0 h1).mono ?_;rintro e w' ⟨rfl,rfl⟩);go_ret;exact ⟨aE (by simp),rfl⟩
theorem xL (x level:Int) (w:World) (h0:0<=x) (h1:x<=18446744073709551615):
 Calls Tryz.prog 193 #[.int .u64 x,.int .i64 level] w fun e w'=>e=.returned (.bool (bC x level == 1))∧w'=w:=by
 go_enter Tryz.func193,Tryz.ntmps193;go_wp2_with (go_at_call 187;refine (nX x level _ h0 h1).mono ?_;rintro e w' ⟨rfl,rfl⟩);go_ret;exact ⟨aE (by simp),rfl⟩
theorem ua (lv tg asd va:Int) (gl:Bool) (w:World) (hl:lv=0∨lv=1∨lv=2) (hv0:0<=va) (hv1:va<=18446744073709551615):
 Calls Tryz.prog 107 #[.agg #[.int .i64 lv,.int .u64 tg,.int .u64 asd,.bool gl],.int .u64 va] w fun e w'=>e=.returned (.bool (tg == fJ va lv))∧Bw w w':=by
 have n1:=(Below.refl w.heap.size w).alloc nle (Obj.cells #[.int .i64 lv,.int .u64 tg,.int .u64 asd,.bool gl] 188);obtain ⟨tm,htm⟩:∃tm,fJ va lv=tm:=⟨_,rfl⟩;have HT:Hid (∀w,Calls Tryz.prog 134 #[.int .u64 va,.int .i64 lv] w fun e w'=>e=.returned (.int .u64 tm)∧∃n,w'=w.drewN n):=fun w=>by
  have:=xJ va lv w hv0 hv1 hl;rw [htm] at this;exact this
 rw [htm];clear htm;go_enter Tryz.func107,Tryz.ntmps107;go_wp2_with fail;go_quiet ((go_at_call 134;exact Calls.quiet_of (HT.out _)));go_wp2_with fail;go_ret;exact ⟨rfl,below_drewN n1 nq⟩
theorem BD (lv tg asd va asid:Int) (gl:Bool) (w:World) (hl:lv=0∨lv=1∨lv=2) (hv0:0<=va) (hv1:va<=18446744073709551615):
 Calls Tryz.prog 167 #[.agg #[.int .i64 lv,.int .u64 tg,.int .u64 asd,.bool gl],.int .u64 va,.int .u64 asid] w fun e w'=>e=.returned (.bool ((tg == fJ va lv) && (gl || asd == asid)))∧Bw w w':=by
 have n1:=(Below.refl w.heap.size w).alloc nle (Obj.cells #[.int .i64 lv,.int .u64 tg,.int .u64 asd,.bool gl] 188);have H1:Hid ((w.alloc (Obj.cells #[.int .i64 lv,.int .u64 tg,.int .u64 asd,.bool gl] 188)).heap[w.heap.size]?=some (.cells #[.int .i64 lv,.int .u64 tg,.int .u64 asd,.bool gl] 188 (0,0))):=heap_alloc_new w _;obtain ⟨sb,hsb⟩:∃sb,(tg == fJ va lv)=sb:=⟨_,rfl⟩;have HS:Hid (∀w,Calls Tryz.prog 107 #[.agg #[.int .i64 lv,.int .u64 tg,.int .u64 asd,.bool gl],.int .u64 va] w fun e w'=>e=.returned (.bool sb)∧Bw w w'):=fun w=>by
  have:=ua lv tg asd va gl w hl hv0 hv1;rw [hsb] at this;exact this
 rw [hsb];clear hsb;cases sb <;> cases gl;all_goals
  go_enter Tryz.func167,Tryz.ntmps167;go_wp2_with fail;generalize hv1:w.alloc _=v1 at n1 H1 |-;refine (HS.out v1).mono ?_;rintro e v2 ⟨rfl,n2⟩;have K1:=ae H1.out n2 (hpl H1.out);obtain ⟨⟨x0,x1,x2,x3⟩,_,_,_,_⟩:=az K1;have A2:=bst n1 n2;go_wp2_with fail;go_ret;exact ⟨aE (by simp),A2⟩
end Go.Proofs.YtpdddbobhndbjaaGreat
