import Derived.Test.YtgnnmgfgfihljaaGreatPk17
namespace Go.Proofs.YtgnnmgfgfihljaaGreat
open Go.RowKit
set_option linter.unusedVariables false
set_option maxHeartbeats 6400000
set_option maxRecDepth 20000
section
variable {P:Program} {ops:Array Oper} {Q:Exit->Act->World->Prop} {F:World->Prop} {c:Nat}
theorem eH {fuel:Nat} {listed:Array Bool} {a:Act} {w w':World} (i:Nat) {o:Oper} (d:Tmp) (v:Value) (hd:o.dst=some d) (hi:ops[i]?=some o) (hg:o.guard=none) (hr:Region.ready .any ops listed=[i]) (he:(execOp a.eval o).run P w=.ok (.value v) w')
 (hS:(listed.setIfInBounds i true).getD c false=false->F w') (h:du P ops Q F c fuel (listed.setIfInBounds i true) (a.put (some d) v) w'):du P ops Q F c (fuel+1) listed a w:=by
 refine mG i hr ?_;unfold wpOp;simp only [hi];rw [if_pos (by simp [Region.wanted,hg])];refine .inl ?_;unfold Oper.wp;rw [he];refine ⟨hS,?_⟩;rw [hd];exact h
end
def eE (e:EntM):List Value:=[.int .i64 e.level,.int .u64 e.tag,.int .u64 e.asid,.bool e.glob,.bool e.valid,.int .u64 e.pte]
def db (e:EntM):Value:=.agg #[.int .i64 e.level,.int .u64 e.tag,.int .u64 e.asid,.bool e.glob,.bool e.valid,.int .u64 e.pte]
def aC:List EntM->List Value
 | []=>[]
 | e::r=>eE e++aC r
theorem dR:∀es:List EntM,(aC es).length=es.length*6
 | []=>rfl
 | e::r=>by simp [aC,eE,dR r];omega
theorem kF:∀(es:List EntM) (i j:Nat) (hi:i<es.length),j<6->(aC es)[i*6+j]?=(eE es[i])[j]?
 | e::r,0,j,hi,hj=>by
  simp only [aC,List.getElem_cons_zero,Nat.zero_mul,Nat.zero_add];rw [List.getElem?_append_left (by simp [eE];exact hj)]
 | e::r,i+1,j,hi,hj=>by
  simp only [aC,List.getElem_cons_succ];rw [List.getElem?_append_right (by simp [eE];omega)];rw [show (i+1)*6+j-(eE e).length=i*6+j by simp [eE];omega];exact kF r i j (by simpa using hi) hj
theorem gh:∀(l:List EntM) (k:Nat) (e:EntM),k<l.length->aC (l.set k e)=((((((aC l).set (k*6) (.int .i64 e.level)).set (k*6+1) (.int .u64 e.tag)).set (k*6+2) (.int .u64 e.asid)).set (k*6+3) (.bool e.glob)).set (k*6+4) (.bool e.valid)).set (k*6+5) (.int .u64 e.pte)
 | x::r,0,e,h=>by simp [aC,eE]
 | x::r,k+1,e,h=>by
  have ih:=gh r k e (by simpa using h);rw [List.set_cons_succ];simp only [aC,ih];rw [show (k+1)*6=(eE x).length+k*6 by simp [eE];omega];simp only [Nat.add_assoc];rw [List.set_append_right _ _ (by simp [eE]),List.set_append_right _ _ (by omega),List.set_append_right _ _ (by omega),List.set_append_right _ _ (by omega),List.set_append_right _ _ (by omega),List.set_append_right _ _ (by omega)];simp
theorem ny {e:TypeId} {w:World} {base g n cap:Nat} {es:List EntM} (h:w.ownsRow base e 6 (.slice (some ⟨g,0,none⟩) n cap) n (aC es)) (hn:es.length=n) (k:Nat) (x:EntM) (hx:es[k]?=some x) (j:Nat) (v:Value) (hj:j<6) (hv:(eE x)[j]?=some v):
 w.cell? ⟨g,k*6+j,none⟩=some v:=by
 have hk:k<es.length:=(List.getElem?_eq_some_iff.1 hx).1;refine aw h _ _ ?_;rw [kF es k j hk hj];obtain ⟨_,rfl⟩:=List.getElem?_eq_some_iff.1 hx;exact hv
def cB (k n:Nat) (es:List EntM):List EntM:=es.take k++List.replicate (n-k) cO
theorem ic (k:Nat) (es:List EntM) (hk:k<=es.length):(cB k es.length es).length=es.length:=by
 simp [cB];omega
theorem jQ (k:Nat) (es:List EntM) (x:EntM) (hx:es[k]?=some x):cB (k+1) es.length es=(cB k es.length es).set k x:=by
 obtain ⟨hk,rfl⟩:=List.getElem?_eq_some_iff.1 hx;unfold cB;apply List.ext_getElem?;intro j;rw [List.getElem?_set];by_cases hj:k=j
 ·subst hj;rw [if_pos rfl,if_pos (by simp;omega),List.getElem?_append_left (by simp;omega)];simp [hk]
 ·rw [if_neg hj];by_cases hlt:j<k
  ·rw [List.getElem?_append_left (by simp;omega),List.getElem?_append_left (by simp;omega)];simp [hlt,show j<k+1 by omega]
  ·rw [List.getElem?_append_right (by simp;omega),List.getElem?_append_right (by simp;omega)];simp only [List.length_take,List.getElem?_replicate];rw [show min (k+1) es.length=k+1 by omega,show min k es.length=k by omega];by_cases hh:j<es.length
   ·rw [if_pos (by omega),if_pos (by omega)]
   ·rw [if_neg (by omega),if_neg (by omega)]
theorem uB (k:Nat) (es:List EntM) (hx:es[k]?=some cO):cB (k+1) es.length es=cB k es.length es:=by
 rw [jQ k es cO hx];have hk:k<es.length:=(List.getElem?_eq_some_iff.1 hx).1;apply List.ext_getElem?;intro j;rw [List.getElem?_set];by_cases hj:k=j
 ·subst hj;rw [if_pos rfl,if_pos (by rw [ic _ _ (by omega)];exact hk)];unfold cB;rw [List.getElem?_append_right (by simp;omega)];simp only [List.length_take,List.getElem?_replicate];rw [if_pos (by omega)]
 ·rw [if_neg hj]
theorem lQ (es:List EntM):cB es.length es.length es=es:=by
 simp [cB]
theorem my (n:Nat) (es:List EntM):cB 0 n es=List.replicate n cO:=by simp [cB]
theorem iw {B:Nat} {a w:World} {g:Nat} (h:Below B a w) (hg:B<=g) (x y z u v t:Value):Below B a ((((((w.setCell ⟨g,0,none⟩ x).setCell ⟨g,1,none⟩ y).setCell ⟨g,2,none⟩ z).setCell ⟨g,3,none⟩ u).setCell ⟨g,4,none⟩ v).setCell ⟨g,5,none⟩ t):=
 (((fu h hg x y z).setCell (p:=⟨g,3,none⟩) hg u).setCell (p:=⟨g,4,none⟩) hg v).setCell (p:=⟨g,5,none⟩) hg t
theorem gI {v:World} {p:Nat} {T:TypeId} {a b c d e f:Value} (h:v.heap[p]?=some (.cells #[a,b,c,d,e,f] T (0,0))):
 (v.cell? ⟨p,0,none⟩=some a∧v.cell? ⟨p,1,none⟩=some b∧v.cell? ⟨p,2,none⟩=some c∧v.cell? ⟨p,3,none⟩=some d∧v.cell? ⟨p,4,none⟩=some e∧v.cell? ⟨p,5,none⟩=some f)∧
  (v.frozen? ⟨p,0,none⟩=false∧v.frozen? ⟨p,1,none⟩=false∧v.frozen? ⟨p,2,none⟩=false∧v.frozen? ⟨p,3,none⟩=false∧v.frozen? ⟨p,4,none⟩=false∧v.frozen? ⟨p,5,none⟩=false):=by
 simp [World.cell?,World.frozen?,h]
theorem zH (z:EntM) (n:Nat):(madeCells (eE z).toArray (n*6)).toList=aC (List.replicate n z):=by
 apply List.ext_getElem?;intro j;by_cases hj:j<n*6
 ·have hq:j/6<(List.replicate n z).length:=by simp;omega
  have:=kF (List.replicate n z) (j/6) (j%6) hq (by omega);rw [show j/6*6+j%6=j by omega] at this;rw [this];have h6:j%6<(eE z).length:=by simp [eE];omega
  simp only [madeCells,List.getElem_replicate];rw [List.getElem?_eq_getElem h6];simp [hj,eE];rw [List.getElem?_eq_getElem (by simpa [eE] using h6)];rfl
 ·rw [List.getElem?_eq_none (by simp [madeCells];omega),List.getElem?_eq_none (by rw [dR];simp;omega)]
theorem uE (v:World) (T E:TypeId) (xs cs:Array Value) (ss:List Value) (n:Nat) (hcs:cs.toList=ss) (hn:ss.length=n*6) (hm:n<=maxLen):
 ((v.alloc (.cells cs E)).alloc (.cells xs T)).drew.heap[v.heap.size+1]?=some (.cells xs T (0,0))∧((v.alloc (.cells cs E)).alloc (.cells xs T)).drew.ownsRow v.heap.size E 6 (.slice (some ⟨v.heap.size,0,none⟩) n n) n ss∧
  Below v.heap.size v ((v.alloc (.cells cs E)).alloc (.cells xs T)).drew∧v.heap.size+1<((v.alloc (.cells cs E)).alloc (.cells xs T)).drew.heap.size:=by
 have hs:cs.size=n*6:=by rw [<-hn,<-hcs];simp
 have h1:=World.ownsRow_lit (e:=E) (size:=6) v cs n (Nat.le_refl v.heap.size) hm hs;rw [hcs] at h1;refine ⟨?_,ag h1 (((Below.refl _ _).alloc nle _).drew),(((Below.refl v.heap.size v).alloc nle _).alloc (by simp) _).drew,?_⟩
 ·have:=heap_alloc_new (v.alloc (.cells cs E)) (.cells xs T);simp only [World.size_alloc] at this;exact this
 ·show _<((v.alloc (.cells cs E)).alloc (.cells xs T)).heap.size;simp
theorem uF (v:World) (T E:TypeId) (xs cs:Array Value) (ss:List Value) (n:Nat) (hcs:cs.toList=ss) (hn:ss.length=n*6) (hm:n<=maxLen):
 ((v.alloc (.cells xs T)).alloc (.cells cs E)).drew.heap[v.heap.size]?=some (.cells xs T (0,0))∧((v.alloc (.cells xs T)).alloc (.cells cs E)).drew.ownsRow v.heap.size E 6 (.slice (some ⟨v.heap.size+1,0,none⟩) n n) n ss∧
  Below v.heap.size v ((v.alloc (.cells xs T)).alloc (.cells cs E)).drew∧v.heap.size<((v.alloc (.cells xs T)).alloc (.cells cs E)).drew.heap.size:=by
 have hs:cs.size=n*6:=by rw [<-hn,<-hcs];simp
 have h1:=World.ownsRow_lit (e:=E) (size:=6) (v.alloc (.cells xs T)) cs n (base:=v.heap.size) (by simp) hm hs;rw [hcs] at h1;simp only [World.size_alloc] at h1;refine ⟨?_,h1,(((Below.refl v.heap.size v).alloc nle _).alloc (by simp) _).drew,?_⟩
 ·show ((v.alloc (.cells xs T)).alloc (.cells cs E)).heap[v.heap.size]?=_;rw [heap_alloc_old _ _ (by simp)];exact heap_alloc_new v _
 ·show _<((v.alloc (.cells xs T)).alloc (.cells cs E)).heap.size;simp;omega
theorem fO {w:World} {g n:Nat} {es:List EntM} (h:RowC w (some ⟨g,0,none⟩) n 6 (aC es)) (hn:es.length=n) (k:Nat) (x:EntM) (hx:es[k]?=some x) (j:Nat) (v:Value) (hj:j<6) (hv:(eE x)[j]?=some v):
 w.cell? ⟨g,k*6+j,none⟩=some v:=by
 have hk:k<es.length:=(List.getElem?_eq_some_iff.1 hx).1;rcases h.2 with h0 | ⟨b',off',e,_,hc⟩
 ·omega
 ·simp at e;obtain ⟨rfl,rfl⟩:=e;have:=hc (k*6+j) v (by
   rw [kF es k j hk hj];obtain ⟨_,rfl⟩:=List.getElem?_eq_some_iff.1 hx;exact hv)
  rw [Nat.zero_add] at this;exact this
theorem sp {w w':World} {r:Option Nat} (h:Below w.heap.size w w'):w.grownBy w' r:=
 ⟨h.os,h.tape,h.output,h.size,fun i hi _=>h.block i hi⟩
theorem pA (w:World) (r:Option Nat):w.grownBy w.drew r:=sp (Below.refl _ _).drew
theorem BP {B:Nat} {a w:World} {g:Nat} (h:Below B a w) (hg:B<=g) (x y z u:Value):Below B a ((((w.setCell ⟨g,0,none⟩ x).setCell ⟨g,1,none⟩ y).setCell ⟨g,2,none⟩ z).setCell ⟨g,3,none⟩ u):=
 (fu h hg x y z).setCell (p:=⟨g,3,none⟩) hg u
theorem go {v:World} {p:Nat} {cs:Array Value} {T:TypeId} (h:v.heap[p]?=some (.cells cs T (0,0))) (i:Nat) (x:Value) (hx:cs[i]?=some x):v.cell? ⟨p,i,none⟩=some x:=by
 simp [World.cell?,h,hx]
def Keeps (w w':World) (x y z:Nat):Prop:=
 w'.os=w.os∧w'.tape=w.tape∧w'.output=w.output∧w.heap.size<=w'.heap.size∧∀i,i<w.heap.size->i≠x->i≠y->i≠z->w'.heap[i]?=w.heap[i]?
theorem Keeps.refl (w:World) (x y z:Nat):Keeps w w x y z:=⟨rfl,rfl,rfl,nle,fun _ _ _ _ _=>rfl⟩
theorem Keeps.of_below {w w':World} (x y z:Nat) (h:Below w.heap.size w w'):Keeps w w' x y z:=⟨h.os,h.tape,h.output,h.size,fun i hi _ _ _=>h.block i hi⟩
theorem Keeps.of_gb {w w':World} {r:Nat} (x y z:Nat) (h:w.grownBy w' (some r)) (hr:r=x∨r=y∨r=z):Keeps w w' x y z:=
 ⟨h.os,h.tape,h.output,h.size,fun i hi h1 h2 h3=>h.block i hi (by
  simp only [ne_eq,Option.some.injEq];rcases hr with rfl | rfl | rfl <;> (intro e;subst e;contradiction))⟩
theorem Keeps.trans {a b c:World} {x y z:Nat} (h:Keeps a b x y z) (k:Keeps b c x y z):Keeps a c x y z:=
 ⟨k.1.trans h.1,k.2.1.trans h.2.1,k.2.2.1.trans h.2.2.1,Nat.le_trans h.2.2.2.1 k.2.2.2.1,fun i hi h1 h2 h3=>(k.2.2.2.2 i (Nat.lt_of_lt_of_le hi h.2.2.2.1) h1 h2 h3).trans (h.2.2.2.2 i hi h1 h2 h3)⟩
theorem Keeps.heap {w w':World} {x y z i:Nat} {o:Obj} (h:Keeps w w' x y z) (hi:w.heap[i]?=some o) (h1:i≠x) (h2:i≠y) (h3:i≠z):w'.heap[i]?=some o:=
 (h.2.2.2.2 i (hpl hi) h1 h2 h3).trans hi
theorem Keeps.below {w w' a:World} {B x y z:Nat} (hb:Below B a w) (h:Keeps w w' x y z) (hB:B<=w.heap.size) (h1:B<=x) (h2:B<=y) (h3:B<=z):Below B a w':=
 hb.trans ⟨h.1,h.2.1,h.2.2.1,h.2.2.2.1,fun k hk=>h.2.2.2.2 k (by omega) (by omega) (by omega) (by omega)⟩
def eR (k:KM) (gi gd gp:Nat):Array Value:=
 #[.int .i64 k.i.sets,.int .i64 k.i.ways,.slice (some ⟨gi,0,none⟩) k.i.es.length k.i.es.length,.int .i64 k.d.sets,.int .i64 k.d.ways,.slice (some ⟨gd,0,none⟩) k.d.es.length k.d.es.length,.int .i64 k.p.sets,.int .i64 k.p.ways,.slice (some ⟨gp,0,none⟩) k.p.es.length k.p.es.length]
def RowsAt (w:World) (base gi gd gp:Nat) (k:KM):Prop:=
 w.ownsRow base 224 6 (.slice (some ⟨gi,0,none⟩) k.i.es.length k.i.es.length) k.i.es.length (aC k.i.es)∧
 w.ownsRow base 224 6 (.slice (some ⟨gd,0,none⟩) k.d.es.length k.d.es.length) k.d.es.length (aC k.d.es)∧
 w.ownsRow base 229 6 (.slice (some ⟨gp,0,none⟩) k.p.es.length k.p.es.length) k.p.es.length (aC k.p.es)∧gi≠gd∧gi≠gp∧gd≠gp
theorem RowsAt.keep {w w':World} {base gi gd gp:Nat} {k:KM} (h:RowsAt w base gi gd gp k) (hb:Below w.heap.size w w'):RowsAt w' base gi gd gp k:=
 ⟨ag h.1 hb,ag h.2.1 hb,ag h.2.2.1 hb,h.2.2.2⟩
theorem kO {e:TypeId} {size:Nat} {w w':World} {base n r g c:Nat} {cs:List Value} (h:w.ownsRow base e size (.slice (some ⟨g,0,none⟩) n c) n cs) (hg:w.grownBy w' (some r)) (hr:g≠r):w'.ownsRow base e size (.slice (some ⟨g,0,none⟩) n c) n cs:=by
 refine h.kept hg (.inr ?_);simp [Value.ownBlock];exact hr
theorem RowsAt.putP {w w':World} {base gi gd gp:Nat} {k:KM} {es:List EntM} (h:RowsAt w base gi gd gp k) (hg:w.grownBy w' (some gp)) (hl:es.length=k.p.es.length) (ho:w'.ownsRow base 229 6 (.slice (some ⟨gp,0,none⟩) k.p.es.length k.p.es.length) k.p.es.length (aC es)):
 RowsAt w' base gi gd gp ⟨k.i,k.d,⟨k.p.sets,k.p.ways,es⟩⟩:=by
 obtain ⟨h1,h2,h3,d1,d2,d3⟩:=h;refine ⟨kO h1 hg d2,kO h2 hg d3,?_,d1,d2,d3⟩;simp only;rw [hl];exact ho
theorem RowsAt.putI {w w':World} {base gi gd gp:Nat} {k:KM} {es:List EntM} (h:RowsAt w base gi gd gp k) (hg:w.grownBy w' (some gi)) (hl:es.length=k.i.es.length) (ho:w'.ownsRow base 224 6 (.slice (some ⟨gi,0,none⟩) k.i.es.length k.i.es.length) k.i.es.length (aC es)):
 RowsAt w' base gi gd gp ⟨⟨k.i.sets,k.i.ways,es⟩,k.d,k.p⟩:=by
 obtain ⟨h1,h2,h3,d1,d2,d3⟩:=h;refine ⟨?_,kO h2 hg (Ne.symm d1),kO h3 hg (Ne.symm d2),d1,d2,d3⟩;simp only;rw [hl];exact ho
theorem RowsAt.putD {w w':World} {base gi gd gp:Nat} {k:KM} {es:List EntM} (h:RowsAt w base gi gd gp k) (hg:w.grownBy w' (some gd)) (hl:es.length=k.d.es.length) (ho:w'.ownsRow base 224 6 (.slice (some ⟨gd,0,none⟩) k.d.es.length k.d.es.length) k.d.es.length (aC es)):
 RowsAt w' base gi gd gp ⟨k.i,⟨k.d.sets,k.d.ways,es⟩,k.p⟩:=by
 obtain ⟨h1,h2,h3,d1,d2,d3⟩:=h;refine ⟨kO h1 hg d1,?_,kO h3 hg (Ne.symm d3),d1,d2,d3⟩;simp only;rw [hl];exact ho
def SetAt (w:World) (b base gi gd gp:Nat) (k:KM):Prop:=
 w.heap[b]?=some (.cells (eR k gi gd gp) 102 (0,0))∧RowsAt w base gi gd gp k∧b≠gi∧b≠gd∧b≠gp
theorem SetAt.keep {w w':World} {b base gi gd gp:Nat} {k:KM} (h:SetAt w b base gi gd gp k) (hb:Below w.heap.size w w'):SetAt w' b base gi gd gp k:=
 ⟨ae h.1 hb (hpl h.1),h.2.1.keep hb,h.2.2⟩
theorem SetAt.lt {w:World} {b base gi gd gp:Nat} {k:KM} (h:SetAt w b base gi gd gp k):b<w.heap.size:=(hpl h.1)
theorem SetAt.cellI {w:World} {b base gi gd gp:Nat} {k:KM} (h:SetAt w b base gi gd gp k):
 w.cell? ⟨b,0,none⟩=some (.int .i64 k.i.sets)∧w.cell? ⟨b,0+1,none⟩=some (.int .i64 k.i.ways)∧w.cell? ⟨b,0+2,none⟩=some (.slice (some ⟨gi,0,none⟩) k.i.es.length k.i.es.length):=
 ⟨go h.1 0 _ rfl,go h.1 1 _ rfl,go h.1 2 _ rfl⟩
theorem SetAt.cellD {w:World} {b base gi gd gp:Nat} {k:KM} (h:SetAt w b base gi gd gp k):
 w.cell? ⟨b,3,none⟩=some (.int .i64 k.d.sets)∧w.cell? ⟨b,3+1,none⟩=some (.int .i64 k.d.ways)∧w.cell? ⟨b,3+2,none⟩=some (.slice (some ⟨gd,0,none⟩) k.d.es.length k.d.es.length):=
 ⟨go h.1 3 _ rfl,go h.1 4 _ rfl,go h.1 5 _ rfl⟩
theorem SetAt.cellP {w:World} {b base gi gd gp:Nat} {k:KM} (h:SetAt w b base gi gd gp k):
 w.cell? ⟨b,6,none⟩=some (.int .i64 k.p.sets)∧w.cell? ⟨b,6+1,none⟩=some (.int .i64 k.p.ways)∧w.cell? ⟨b,6+2,none⟩=some (.slice (some ⟨gp,0,none⟩) k.p.es.length k.p.es.length):=
 ⟨go h.1 6 _ rfl,go h.1 7 _ rfl,go h.1 8 _ rfl⟩
theorem jd (level:Int) (w:World) (hl:level=0∨level=1∨level=2):
 Calls Tryz.prog 165 #[.int .i64 level] w fun e w'=>e=.returned (.int .u64 (jR level-1))∧w'=w:=by
 rcases hl with rfl | rfl | rfl;all_goals
  go_enter Tryz.func165,Tryz.ntmps165;go_wp2_with (go_at_call 104;refine (dc 15 32767 _ (by omega)).mono ?_;rintro e w' ⟨rfl,rfl⟩);go_ret;exact ⟨dw (by decide),rfl⟩
theorem wE (va level:Int) (w:World) (hv0:0<=va) (hv1:va<=18446744073709551615) (hl:level=0∨level=1∨level=2):
 Calls Tryz.prog 170 #[.int .u64 va,.int .i64 level] w fun e w'=>e=.returned (.int .u64 (eF va level))∧∃n,w'=w.drewN n:=by
 rcases hl with rfl | rfl | rfl
 ·have H:Hid (bits .and .u64 (va/64) 511=eF va 0):=ec 9 (va/64) 511 rfl (by omega) (by omega) (by omega);go_enter Tryz.func170,Tryz.ntmps170;go_wp2_with fail;go_quiet ((go_at_call 165;exact Calls.quiet_of_same (jd 0 _ (by omega))));go_wp2_with fail;go_ret;exact ⟨dw H.out,nq,rfl⟩
 ·have H:Hid (bits .and .u64 (va/512) 63=eF va 1):=ec 6 (va/512) 63 rfl (by omega) (by omega) (by omega);go_enter Tryz.func170,Tryz.ntmps170;go_wp2_with fail;go_quiet ((go_at_call 165;exact Calls.quiet_of_same (jd 1 _ (by omega))));go_wp2_with fail;go_ret;exact ⟨dw H.out,nq,rfl⟩
 ·have H:Hid (bits .and .u64 (va/4096) 7=eF va 2):=ec 3 (va/4096) 7 rfl (by omega) (by omega) (by omega);go_enter Tryz.func170,Tryz.ntmps170;go_wp2_with fail;go_quiet ((go_at_call 165;exact Calls.quiet_of_same (jd 2 _ (by omega))));go_wp2_with fail;go_ret;exact ⟨dw H.out,nq,rfl⟩
theorem kE (satp:Int) (w:World) (h0:0<=satp) (h1:satp<=18446744073709551615):
 Calls Tryz.prog 198 #[.int .u64 satp] w fun e w'=>e=.returned (.int .u64 (aG satp))∧w'=w:=by
 have H:Hid (bits .and .u64 (satp/17592186044416) 65535=aG satp):=ec 16 (satp/17592186044416) 65535 rfl (by omega) (by omega) (by omega);go_enter Tryz.func198,Tryz.ntmps198;go_wp2_with (go_at_call 104;refine (dc 16 65535 _ (by omega)).mono ?_;rintro e w' ⟨rfl,rfl⟩);go_ret;exact ⟨dw H.out,rfl⟩
theorem wF (x level:Int) (w:World) (h0:0<=x) (h1:x<=18446744073709551615):
 Calls Tryz.prog 226 #[.int .u64 x,.int .i64 level] w fun e w'=>e=.returned (.bool (bu x level == 2))∧w'=w:=by
 go_enter Tryz.func226,Tryz.ntmps226;go_wp2_with (go_at_call 221;refine (mB x level _ h0 h1).mono ?_;rintro e w' ⟨rfl,rfl⟩);go_ret;exact ⟨aB (by simp),rfl⟩
theorem wG (x level:Int) (w:World) (h0:0<=x) (h1:x<=18446744073709551615):
 Calls Tryz.prog 227 #[.int .u64 x,.int .i64 level] w fun e w'=>e=.returned (.bool (bu x level == 1))∧w'=w:=by
 go_enter Tryz.func227,Tryz.ntmps227;go_wp2_with (go_at_call 221;refine (mB x level _ h0 h1).mono ?_;rintro e w' ⟨rfl,rfl⟩);go_ret;exact ⟨aB (by simp),rfl⟩
theorem mx (k:Int) (w:World):
 Calls Tryz.prog 30 #[.int .i64 k] w fun e w'=>e=.returned (.bool (decide (0<=k∧k<=255)))∧w'=w:=by
 by_cases h:0<=k
 ·go_enter Tryz.func30,Tryz.ntmps30;go_wp2_with fail;go_ret;exact ⟨aB (by simp [h]),rfl⟩
 ·go_enter Tryz.func30,Tryz.ntmps30;go_wp2_with fail;go_ret;exact ⟨aB (by simp;omega),rfl⟩
end Go.Proofs.YtgnnmgfgfihljaaGreat
