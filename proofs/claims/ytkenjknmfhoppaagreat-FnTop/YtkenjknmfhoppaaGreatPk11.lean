import Derived.Test.YtkenjknmfhoppaaGreatPk08
namespace Go.Proofs.YtkenjknmfhoppaaGreat
open Go.RowKit
set_option linter.unusedVariables false
set_option maxHeartbeats 6400000
set_option maxRecDepth 20000
def fM (e:EntM):List Value:=[VI e.level,VU e.tag,VU e.asid,.bool e.glob,.bool e.valid,VU e.pte]
def dF (e:EntM):Value:=.agg #[VI e.level,VU e.tag,VU e.asid,.bool e.glob,.bool e.valid,VU e.pte]
def aC:List EntM->List Value
 | []=>[]
 | e::r=>fM e++aC r
theorem eN:∀es:List EntM,(aC es).length=es.length*6
 | []=>rfl
 | e::r=>by simp [aC,fM,eN r];omega
theorem nz:∀(es:List EntM) (i j:Nat) (hi:i<es.length),j<6->(aC es)[i*6+j]?=(fM es[i])[j]?
 | e::r,0,j,hi,hj=>by
  simp only [aC,List.getElem_cons_zero,Nat.zero_mul,Nat.zero_add];rw [List.getElem?_append_left (by simp [fM];exact hj)]
 | e::r,i+1,j,hi,hj=>by
  simp only [aC,List.getElem_cons_succ];rw [List.getElem?_append_right (by simp [fM];omega)];rw [show (i+1)*6+j-(fM e).length=i*6+j by simp [fM];omega];exact nz r i j (by simpa using hi) hj
theorem iG:∀(l:List EntM) (k:Nat) (e:EntM),k<l.length->aC (l.set k e)=((((((aC l).set (k*6) (VI e.level)).set (k*6+1) (VU e.tag)).set (k*6+2) (VU e.asid)).set (k*6+3) (.bool e.glob)).set (k*6+4) (.bool e.valid)).set (k*6+5) (VU e.pte)
 | x::r,0,e,h=>by simp [aC,fM]
 | x::r,k+1,e,h=>by
  have ih:=iG r k e (by simpa using h);rw [List.set_cons_succ];simp only [aC,ih];rw [show (k+1)*6=(fM x).length+k*6 by simp [fM];omega];simp only [Nat.add_assoc];rw [List.set_append_right _ _ (by simp [fM]),List.set_append_right _ _ (by omega),List.set_append_right _ _ (by omega),List.set_append_right _ _ (by omega),List.set_append_right _ _ (by omega),List.set_append_right _ _ (by omega)];simp
theorem qN {e:TypeId} {w:World} {base g n cap:Nat} {es:List EntM} (h:w.ownsRow base e 6 (SL g n cap) n (aC es)) (hn:es.length=n) (k:Nat) (x:EntM) (hx:es[k]?=some x) (j:Nat) (v:Value) (hj:j<6) (hv:(fM x)[j]?=some v):
 w.cell? ⟨g,k*6+j,none⟩=some v:=by
 have hk:=(List.getElem?_eq_some_iff.1 hx).1;refine aM h _ _ ?_;rw [nz es k j hk hj];obtain ⟨_,rfl⟩:=List.getElem?_eq_some_iff.1 hx;exact hv
def dR (k n:Nat) (es:List EntM):List EntM:=es.take k++List.replicate (n-k) cZ
theorem pe (k:Nat) (es:List EntM) (hk:k<=es.length):(dR k es.length es).length=es.length:=by
 simp [dR];omega
theorem rz (k:Nat) (es:List EntM) (x:EntM) (hx:es[k]?=some x):dR (k+1) es.length es=(dR k es.length es).set k x:=by
 obtain ⟨hk,rfl⟩:=List.getElem?_eq_some_iff.1 hx;unfold dR;apply List.ext_getElem?;intro j;rw [List.getElem?_set];by_cases hj:k=j
 ·subst hj;rw [if_pos rfl,if_pos (by simp;omega),List.getElem?_append_left (by simp;omega)];simp [hk]
 ·rw [if_neg hj];by_cases hlt:j<k
  ·rw [List.getElem?_append_left (by simp;omega),List.getElem?_append_left (by simp;omega)];simp [hlt,show j<k+1 by omega]
  ·rw [List.getElem?_append_right (by simp;omega),List.getElem?_append_right (by simp;omega)];simp only [List.length_take,List.getElem?_replicate];rw [show min (k+1) es.length=k+1 by omega,show min k es.length=k by omega];by_cases hh:j<es.length
   ·rw [if_pos (by omega),if_pos (by omega)]
   ·rw [if_neg (by omega),if_neg (by omega)]
theorem yL (k:Nat) (es:List EntM) (hx:es[k]?=some cZ):dR (k+1) es.length es=dR k es.length es:=by
 rw [rz k es cZ hx];have hk:=(List.getElem?_eq_some_iff.1 hx).1;apply List.ext_getElem?;intro j;rw [List.getElem?_set];by_cases hj:k=j
 ·subst hj;rw [if_pos rfl,if_pos (by rw [pe _ _ (by omega)];exact hk)];unfold dR;rw [List.getElem?_append_right (by simp;omega)];simp only [List.length_take,List.getElem?_replicate];rw [if_pos (by omega)]
 ·rw [if_neg hj]
theorem AC (es:List EntM):dR es.length es.length es=es:=by
 simp [dR]
theorem wF (n:Nat) (es:List EntM):dR 0 n es=List.replicate n cZ:=by simp [dR]
theorem ka {B:Nat} {a w:World} {g:Nat} (h:Below B a w) (hg:B<=g) (x y z u v t:Value):Below B a ((((((w.setCell (AD g 0) x).setCell (AD g 1) y).setCell (AD g 2) z).setCell (AD g 3) u).setCell (AD g 4) v).setCell (AD g 5) t):=
 (((kT h hg x y z).setCell (p:=(AD g 3)) hg u).setCell (p:=(AD g 4)) hg v).setCell (p:=(AD g 5)) hg t
theorem jg {v:World} {p:Nat} {T:TypeId} {a b c d e f:Value} (h:v.heap[p]?=some (.cells #[a,b,c,d,e,f] T (0,0))):
 (v.cell? (AD p 0)=some a∧v.cell? (AD p 1)=some b∧v.cell? (AD p 2)=some c∧v.cell? (AD p 3)=some d∧v.cell? (AD p 4)=some e∧v.cell? (AD p 5)=some f)∧
  (v.frozen? (AD p 0)=false∧v.frozen? (AD p 1)=false∧v.frozen? (AD p 2)=false∧v.frozen? (AD p 3)=false∧v.frozen? (AD p 4)=false∧v.frozen? (AD p 5)=false):=by
 simp [World.cell?,World.frozen?,h]
theorem Fe (z:EntM) (n:Nat):(madeCells (fM z).toArray (n*6)).toList=aC (List.replicate n z):=by
 apply List.ext_getElem?;intro j;by_cases hj:j<n*6
 ·have hq:j/6<(List.replicate n z).length:=by simp;omega
  have:=nz (List.replicate n z) (j/6) (j%6) hq (by omega);rw [show j/6*6+j%6=j by omega] at this;rw [this];have h6:j%6<(fM z).length:=by simp [fM];omega
  simp only [madeCells,List.getElem_replicate];rw [geg h6];simp [hj,fM];rw [geg (by simpa [fM] using h6)];rfl
 ·rw [List.getElem?_eq_none (by simp [madeCells];omega),List.getElem?_eq_none (by rw [eN];simp;omega)]
theorem yR (v:World) (T E:TypeId) (xs cs:Array Value) (ss:List Value) (n:Nat) (hcs:cs.toList=ss) (hn:ss.length=n*6) (hm:n<=maxLen):
 ((v.alloc (.cells cs E)).alloc (.cells xs T)).drew.heap[v.heap.size+1]?=some (.cells xs T (0,0))∧((v.alloc (.cells cs E)).alloc (.cells xs T)).drew.ownsRow v.heap.size E 6 (SL v.heap.size n n) n ss∧
  Bw v ((v.alloc (.cells cs E)).alloc (.cells xs T)).drew∧v.heap.size+1<((v.alloc (.cells cs E)).alloc (.cells xs T)).drew.heap.size:=by
 have hs:cs.size=n*6:=by rw [<-hn,<-hcs];simp
 have h1:=World.ownsRow_lit (e:=E) (size:=6) v cs n (Nat.le_refl v.heap.size) hm hs;rw [hcs] at h1;refine ⟨?_,aq h1 (((brf).alloc nle _).drew),(((Below.refl v.heap.size v).alloc nle _).alloc (by simp) _).drew,?_⟩
 ·have:=fE (v.alloc (.cells cs E)) (.cells xs T);simp only [World.size_alloc] at this;exact this
 ·show _<((v.alloc (.cells cs E)).alloc (.cells xs T)).heap.size;simp
theorem yS (v:World) (T E:TypeId) (xs cs:Array Value) (ss:List Value) (n:Nat) (hcs:cs.toList=ss) (hn:ss.length=n*6) (hm:n<=maxLen):
 ((v.alloc (.cells xs T)).alloc (.cells cs E)).drew.heap[v.heap.size]?=some (.cells xs T (0,0))∧((v.alloc (.cells xs T)).alloc (.cells cs E)).drew.ownsRow v.heap.size E 6 (.slice (some ⟨v.heap.size+1,0,none⟩) n n) n ss∧
  Bw v ((v.alloc (.cells xs T)).alloc (.cells cs E)).drew∧v.heap.size<((v.alloc (.cells xs T)).alloc (.cells cs E)).drew.heap.size:=by
 have hs:cs.size=n*6:=by rw [<-hn,<-hcs];simp
 have h1:=World.ownsRow_lit (e:=E) (size:=6) (v.alloc (.cells xs T)) cs n (base:=v.heap.size) (by simp) hm hs;rw [hcs] at h1;simp only [World.size_alloc] at h1;refine ⟨?_,h1,(((Below.refl v.heap.size v).alloc nle _).alloc (by simp) _).drew,?_⟩
 ·show ((v.alloc (.cells xs T)).alloc (.cells cs E)).heap[v.heap.size]?=_;rw [zF _ _ (by simp)];exact fE v _
 ·show _<((v.alloc (.cells xs T)).alloc (.cells cs E)).heap.size;simp;omega
theorem jt {w:World} {g n:Nat} {es:List EntM} (h:RowC w (some (AD g 0)) n 6 (aC es)) (hn:es.length=n) (k:Nat) (x:EntM) (hx:es[k]?=some x) (j:Nat) (v:Value) (hj:j<6) (hv:(fM x)[j]?=some v):
 w.cell? ⟨g,k*6+j,none⟩=some v:=by
 have hk:=(List.getElem?_eq_some_iff.1 hx).1;rcases h.2 with h0 | ⟨b',off',e,_,hc⟩
 ·omega
 ·simp at e;obtain ⟨rfl,rfl⟩:=e;have:=hc (k*6+j) v (by
   rw [nz es k j hk hj];obtain ⟨_,rfl⟩:=List.getElem?_eq_some_iff.1 hx;exact hv)
  rw [Nat.zero_add] at this;exact this
theorem uW {w w':World} {r:Option Nat} (h:Bw w w'):w.grownBy w' r:=
 ⟨h.os,h.tape,h.output,h.size,fun i hi _=>h.block i hi⟩
theorem rX (w:World) (r:Option Nat):w.grownBy w.drew r:=uW (brf).drew
theorem Ff {B:Nat} {a w:World} {g:Nat} (h:Below B a w) (hg:B<=g) (x y z u:Value):Below B a ((((w.setCell (AD g 0) x).setCell (AD g 1) y).setCell (AD g 2) z).setCell (AD g 3) u):=
 (kT h hg x y z).setCell (p:=(AD g 3)) hg u
theorem iP {v:World} {p:Nat} {cs:Array Value} {T:TypeId} (h:v.heap[p]?=some (.cells cs T (0,0))) (i:Nat) (x:Value) (hx:cs[i]?=some x):v.cell? (AD p i)=some x:=by
 simp [World.cell?,h,hx]
def Keeps (w w':World) (x y z:Nat):Prop:=
 w'.os=w.os∧w'.tape=w.tape∧w'.output=w.output∧w.heap.size<=w'.heap.size∧∀i,i<w.heap.size->i≠x->i≠y->i≠z->w'.heap[i]?=w.heap[i]?
theorem Keeps.refl (w:World) (x y z:Nat):Keeps w w x y z:=⟨rfl,rfl,rfl,nle,fun _ _ _ _ _=>rfl⟩
theorem Keeps.of_below {w w':World} (x y z:Nat) (h:Bw w w'):Keeps w w' x y z:=⟨h.os,h.tape,h.output,h.size,fun i hi _ _ _=>h.block i hi⟩
theorem Keeps.of_gb {w w':World} {r:Nat} (x y z:Nat) (h:w.grownBy w' (some r)) (hr:r=x∨r=y∨r=z):Keeps w w' x y z:=
 ⟨h.os,h.tape,h.output,h.size,fun i hi h1 h2 h3=>h.block i hi (by
  simp only [ne_eq,Option.some.injEq];rcases hr with rfl | rfl | rfl <;> (intro e;subst e;contradiction))⟩
theorem Keeps.trans {a b c:World} {x y z:Nat} (h:Keeps a b x y z) (k:Keeps b c x y z):Keeps a c x y z:=
 ⟨k.1.trans h.1,k.2.1.trans h.2.1,k.2.2.1.trans h.2.2.1,Nat.le_trans h.2.2.2.1 k.2.2.2.1,fun i hi h1 h2 h3=>(k.2.2.2.2 i (ltl hi h.2.2.2.1) h1 h2 h3).trans (h.2.2.2.2 i hi h1 h2 h3)⟩
theorem Keeps.heap {w w':World} {x y z i:Nat} {o:Obj} (h:Keeps w w' x y z) (hi:w.heap[i]?=some o) (h1:i≠x) (h2:i≠y) (h3:i≠z):w'.heap[i]?=some o:=
 (h.2.2.2.2 i (hpl hi) h1 h2 h3).trans hi
theorem Keeps.below {w w' a:World} {B x y z:Nat} (hb:Below B a w) (h:Keeps w w' x y z) (hB:B<=w.heap.size) (h1:B<=x) (h2:B<=y) (h3:B<=z):Below B a w':=
 hb.trans ⟨h.1,h.2.1,h.2.2.1,h.2.2.2.1,fun k hk=>h.2.2.2.2 k (by omega) (by omega) (by omega) (by omega)⟩
def iu (k:KM) (gi gd gp:Nat):Array Value:=
 #[VI k.i.sets,VI k.i.ways,SL gi k.i.es.length k.i.es.length,VI k.d.sets,VI k.d.ways,SL gd k.d.es.length k.d.es.length,VI k.p.sets,VI k.p.ways,SL gp k.p.es.length k.p.es.length]
def RowsAt (w:World) (base gi gd gp:Nat) (k:KM):Prop:=
 w.ownsRow base 246 6 (SL gi k.i.es.length k.i.es.length) k.i.es.length (aC k.i.es)∧
 w.ownsRow base 246 6 (SL gd k.d.es.length k.d.es.length) k.d.es.length (aC k.d.es)∧
 w.ownsRow base 251 6 (SL gp k.p.es.length k.p.es.length) k.p.es.length (aC k.p.es)∧gi≠gd∧gi≠gp∧gd≠gp
theorem RowsAt.keep {w w':World} {base gi gd gp:Nat} {k:KM} (h:RowsAt w base gi gd gp k) (hb:Bw w w'):RowsAt w' base gi gd gp k:=
 ⟨aq h.1 hb,aq h.2.1 hb,aq h.2.2.1 hb,h.2.2.2⟩
theorem ox {e:TypeId} {size:Nat} {w w':World} {base n r g c:Nat} {cs:List Value} (h:w.ownsRow base e size (SL g n c) n cs) (hg:w.grownBy w' (some r)) (hr:g≠r):w'.ownsRow base e size (SL g n c) n cs:=by
 refine h.kept hg (.inr ?_);simp [Value.ownBlock];exact hr
theorem RowsAt.putP {w w':World} {base gi gd gp:Nat} {k:KM} {es:List EntM} (h:RowsAt w base gi gd gp k) (hg:w.grownBy w' (some gp)) (hl:es.length=k.p.es.length) (ho:w'.ownsRow base 251 6 (SL gp k.p.es.length k.p.es.length) k.p.es.length (aC es)):
 RowsAt w' base gi gd gp ⟨k.i,k.d,⟨k.p.sets,k.p.ways,es⟩⟩:=by
 obtain ⟨h1,h2,h3,d1,d2,d3⟩:=h;refine ⟨ox h1 hg d2,ox h2 hg d3,?_,d1,d2,d3⟩;simp only;rw [hl];exact ho
theorem RowsAt.putI {w w':World} {base gi gd gp:Nat} {k:KM} {es:List EntM} (h:RowsAt w base gi gd gp k) (hg:w.grownBy w' (some gi)) (hl:es.length=k.i.es.length) (ho:w'.ownsRow base 246 6 (SL gi k.i.es.length k.i.es.length) k.i.es.length (aC es)):
 RowsAt w' base gi gd gp ⟨⟨k.i.sets,k.i.ways,es⟩,k.d,k.p⟩:=by
 obtain ⟨h1,h2,h3,d1,d2,d3⟩:=h;refine ⟨?_,ox h2 hg (Ne.symm d1),ox h3 hg (Ne.symm d2),d1,d2,d3⟩;simp only;rw [hl];exact ho
theorem RowsAt.putD {w w':World} {base gi gd gp:Nat} {k:KM} {es:List EntM} (h:RowsAt w base gi gd gp k) (hg:w.grownBy w' (some gd)) (hl:es.length=k.d.es.length) (ho:w'.ownsRow base 246 6 (SL gd k.d.es.length k.d.es.length) k.d.es.length (aC es)):
 RowsAt w' base gi gd gp ⟨k.i,⟨k.d.sets,k.d.ways,es⟩,k.p⟩:=by
 obtain ⟨h1,h2,h3,d1,d2,d3⟩:=h;refine ⟨ox h1 hg d1,?_,ox h3 hg (Ne.symm d3),d1,d2,d3⟩;simp only;rw [hl];exact ho
def SetAt (w:World) (b base gi gd gp:Nat) (k:KM):Prop:=
 w.heap[b]?=some (.cells (iu k gi gd gp) 93 (0,0))∧RowsAt w base gi gd gp k∧b≠gi∧b≠gd∧b≠gp
theorem SetAt.keep {w w':World} {b base gi gd gp:Nat} {k:KM} (h:SetAt w b base gi gd gp k) (hb:Bw w w'):SetAt w' b base gi gd gp k:=
 ⟨ae h.1 hb (hpl h.1),h.2.1.keep hb,h.2.2⟩
theorem SetAt.lt {w:World} {b base gi gd gp:Nat} {k:KM} (h:SetAt w b base gi gd gp k):b<w.heap.size:=(hpl h.1)
theorem SetAt.cellI {w:World} {b base gi gd gp:Nat} {k:KM} (h:SetAt w b base gi gd gp k):
 w.cell? (AD b 0)=some (VI k.i.sets)∧w.cell? ⟨b,0+1,none⟩=some (VI k.i.ways)∧w.cell? ⟨b,0+2,none⟩=some (SL gi k.i.es.length k.i.es.length):=
 ⟨iP h.1 0 _ rfl,iP h.1 1 _ rfl,iP h.1 2 _ rfl⟩
theorem SetAt.cellD {w:World} {b base gi gd gp:Nat} {k:KM} (h:SetAt w b base gi gd gp k):
 w.cell? (AD b 3)=some (VI k.d.sets)∧w.cell? ⟨b,3+1,none⟩=some (VI k.d.ways)∧w.cell? ⟨b,3+2,none⟩=some (SL gd k.d.es.length k.d.es.length):=
 ⟨iP h.1 3 _ rfl,iP h.1 4 _ rfl,iP h.1 5 _ rfl⟩
theorem SetAt.cellP {w:World} {b base gi gd gp:Nat} {k:KM} (h:SetAt w b base gi gd gp k):
 w.cell? (AD b 6)=some (VI k.p.sets)∧w.cell? ⟨b,6+1,none⟩=some (VI k.p.ways)∧w.cell? ⟨b,6+2,none⟩=some (SL gp k.p.es.length k.p.es.length):=
 ⟨iP h.1 6 _ rfl,iP h.1 7 _ rfl,iP h.1 8 _ rfl⟩
def CellsM (w:World) (b:Nat) (A:Array Value):Prop:=
 ∃C,w.heap[b]?=some (.cells C 97 (0,0))∧∀(i:Nat) (v:Value),A[i]?=some v->C[20+i]?=some v
theorem CellsM.keep {w w':World} {b:Nat} {A:Array Value} (h:CellsM w b A) (hb:Bw w w'):CellsM w' b A:=by
 obtain ⟨C,h1,h2⟩:=h;exact ⟨C,ae h1 hb (hpl h1),h2⟩
theorem CellsM.gb {w w':World} {b r:Nat} {A:Array Value} (h:CellsM w b A) (hg:w.grownBy w' (some r)) (hne:b≠r):CellsM w' b A:=by
 obtain ⟨C,h1,h2⟩:=h;exact ⟨C,aA h1 hg hne,h2⟩
theorem CellsM.cell {w:World} {b:Nat} {A:Array Value} (h:CellsM w b A) (i j:Nat) (v:Value) (hv:A[i]?=some v) (hj:20+i=j):w.cell? (AD b j)=some v:=by
 obtain ⟨C,h1,h2⟩:=h;subst hj;exact iP h1 _ v (h2 i v hv)
def SetM (w:World) (b base gi gd gp:Nat) (k:KM):Prop:=
 CellsM w b (iu k gi gd gp)∧RowsAt w base gi gd gp k∧b≠gi∧b≠gd∧b≠gp
theorem SetM.keep {w w':World} {b base gi gd gp:Nat} {k:KM} (h:SetM w b base gi gd gp k) (hb:Bw w w'):SetM w' b base gi gd gp k:=
 ⟨h.1.keep hb,h.2.1.keep hb,h.2.2⟩
theorem SetM.lt {w:World} {b base gi gd gp:Nat} {k:KM} (h:SetM w b base gi gd gp k):b<w.heap.size:=by
 obtain ⟨C,h1,_⟩:=h.1;exact (hpl h1)
theorem SetM.cellI {w:World} {b base gi gd gp:Nat} {k:KM} (h:SetM w b base gi gd gp k):
 w.cell? (AD b 20)=some (VI k.i.sets)∧w.cell? ⟨b,20+1,none⟩=some (VI k.i.ways)∧w.cell? ⟨b,20+2,none⟩=some (SL gi k.i.es.length k.i.es.length):=
 ⟨h.1.cell 0 _ _ rfl rfl,h.1.cell 1 _ _ rfl rfl,h.1.cell 2 _ _ rfl rfl⟩
theorem SetM.cellD {w:World} {b base gi gd gp:Nat} {k:KM} (h:SetM w b base gi gd gp k):
 w.cell? (AD b 23)=some (VI k.d.sets)∧w.cell? ⟨b,23+1,none⟩=some (VI k.d.ways)∧w.cell? ⟨b,23+2,none⟩=some (SL gd k.d.es.length k.d.es.length):=
 ⟨h.1.cell 3 _ _ rfl rfl,h.1.cell 4 _ _ rfl rfl,h.1.cell 5 _ _ rfl rfl⟩
theorem SetM.cellP {w:World} {b base gi gd gp:Nat} {k:KM} (h:SetM w b base gi gd gp k):
 w.cell? (AD b 26)=some (VI k.p.sets)∧w.cell? ⟨b,26+1,none⟩=some (VI k.p.ways)∧w.cell? ⟨b,26+2,none⟩=some (SL gp k.p.es.length k.p.es.length):=
 ⟨h.1.cell 6 _ _ rfl rfl,h.1.cell 7 _ _ rfl rfl,h.1.cell 8 _ _ rfl rfl⟩
def gZ:List (Nat × Int)->List Int->List Int
 | [],m=>m
 | o::os,m=>(gZ os m).set o.1 o.2
theorem qT:∀(ol:List (Nat × Int)) (x:Nat × Int) (m:List Int),gZ (ol++[x]) m=gZ ol (m.set x.1 x.2)
 | [],x,m=>rfl
 | o::os,x,m=>by simp only [List.cons_append,gZ,qT os x m]
theorem zG:∀(ol:List (Nat × Int)) (m:List Int),(gZ ol m).length=m.length
 | [],m=>rfl
 | o::os,m=>by simp only [gZ,List.length_set,zG os m]
theorem AZ (ol:List (Nat × Int)) (a:Nat) (v:Int) (m:List Int):gZ (ol++[(a,m[a]?.getD 0)]) (m.set a v)=gZ ol m:=by
 rw [qT];simp only [List.set_set];by_cases h:a<m.length
 ·rw [geg h,Option.getD_some,List.set_getElem_self]
 ·rw [List.set_eq_of_length_le (by omega)]
def BytM (zs:List Int):Prop:=∀i:Nat,0<=zs[i]?.getD 0∧zs[i]?.getD 0<=255
theorem BytM.set {zs:List Int} (h:BytM zs) (k:Nat) (z:Int) (h0:0<=z) (h1:z<=255):BytM (zs.set k z):=by
 refine dc fun x hx=>?_;rcases List.mem_or_eq_of_mem_set hx with hx | rfl
 ·exact dW h x hx
 ·exact ⟨h0,h1⟩
def uz (mem:List Int) (pa j:Nat):List Int:=(mem.drop pa).take j
theorem DN (mem:List Int) (pa j:Nat) (h:pa+j<mem.length):uz mem pa (j+1)=uz mem pa j++[mem[pa+j]?.getD 0]:=by
 unfold uz;rw [List.take_succ_eq_append_getElem (by simp;omega)];simp [h]
theorem FB (mem:List Int) (pa j:Nat) (h:pa+j<=mem.length):(uz mem pa j).length=j:=by
 simp [uz];omega
theorem kW (mem:List Int):∀(a b:List bH),cN mem (a++b)=cN mem a++cN mem b
 | [],b=>rfl
 | p::a,b=>by simp only [List.cons_append,cN,kW mem a b,List.append_assoc]
def ua (mem:List Int) (ps:List bH):Prop:=∀p∈ps,fN mem.length p.2.2 p.2.1=true
theorem qj {mem:List Int}:∀{ps:List bH},ua mem ps->fY mem ps=none
 | [],_=>rfl
 | q::ps,h=>by
  unfold fY;rw [if_pos (h q (by simp)),qj fun p hp=>h p (by simp [hp])]
theorem JZ {mem:List Int}:∀{a:List bH} {p:bH} {b:List bH},ua mem a->fN mem.length p.2.2 p.2.1=false->fY mem (a++p::b)=some p.1
 | [],p,b,_,h=>by simp only [List.nil_append,fY];rw [if_neg (by rw [h];simp)]
 | q::a,p,b,ha,h=>by
  simp only [List.cons_append,fY];rw [if_pos (ha q (by simp)),JZ (fun x hx=>ha x (by simp [hx])) h]
theorem FC (xs:List Int) (y:Int):num (xs++[y])=num xs+y*256^xs.length:=by
 rw [oW];simp [num,Int.mul_comm]
theorem FD (mem:List Int) (pa j:Nat) (x:Int) (h:pa+j<mem.length):(put mem pa (cT x j)).set (pa+j) (x/256^j%256)=put mem pa (cT x (j+1)):=by
 rw [Gz _ _ _ (by rw [Br _ _ _ (by rw [fR];omega)];exact h)];have:=EC mem pa j 1 x (by omega);rw [<-this];rfl
theorem vw (n m:Nat) (x:Int) (h:n<=m):(cT x m).take n=cT x n:=by
 obtain ⟨k,rfl⟩:=Nat.le.dest h;rw [sO,List.take_append_of_le_length (by rw [fR];exact nle),List.take_of_length_le (by rw [fR];exact nle)]
theorem vx (n m:Nat) (x:Int):(cT x (n+m)).drop n=cT (x/256^n) m:=by
 rw [sO,List.drop_append,List.drop_of_length_le (by rw [fR];exact nle),fR,Nat.sub_self];simp
def cw:List bH->Nat
 | []=>0
 | p::ps=>p.2.1.toNat+cw ps
theorem rJ (mem:List Int):∀(a:List bH) (mem:List Int) (b:List bH) (x:Int) (m:Nat),jd mem (a++b) (cT x (cw a+m))=jd (jd mem a (cT x (cw a))) b (cT (x/256^cw a) m)
 | [],mem,b,x,m=>by simp [jd,cw]
 | p::a,mem,b,x,m=>by
  simp only [List.cons_append,jd,cw];rw [vw _ _ x (by omega),vw _ _ x (by omega),show p.2.1.toNat+cw a+m=p.2.1.toNat+(cw a+m) by omega,vx,vx,rJ mem a];congr 2;rw [Int.pow_add,<-Int.ediv_ediv_of_nonneg (Int.le_of_lt (Int.pow_pos (by omega)))]
structure Kp (O:Nat->Prop) (w w':World):Prop where
 os:w'.os=w.os
 tape:w'.tape=w.tape
 output:w'.output=w.output
 size:w.heap.size<=w'.heap.size
 block:∀i,i<w.heap.size->¬O i->w'.heap[i]?=w.heap[i]?
theorem Kp.refl (O:Nat->Prop) (w:World):Kp O w w:=⟨rfl,rfl,rfl,nle,fun _ _ _=>rfl⟩
theorem Kp.trans {O:Nat->Prop} {a b c:World} (h:Kp O a b) (k:Kp O b c):Kp O a c:=
 ⟨k.os.trans h.os,k.tape.trans h.tape,k.output.trans h.output,Nat.le_trans h.size k.size,fun i hi ho=>(k.block i (ltl hi h.size) ho).trans (h.block i hi ho)⟩
theorem Kp.trans' {O O':Nat->Prop} {a b c:World} (h:Kp O a b) (k:Kp O' b c) (ho:∀i,i<a.heap.size->O' i->O i):Kp O a c:=
 ⟨k.os.trans h.os,k.tape.trans h.tape,k.output.trans h.output,Nat.le_trans h.size k.size,fun i hi hn=>(k.block i (ltl hi h.size) fun h'=>hn (ho i hi h')).trans (h.block i hi hn)⟩
theorem Kp.mono {O O':Nat->Prop} {a b:World} (h:Kp O a b) (ho:∀i,O i->O' i):Kp O' a b:=
 ⟨h.os,h.tape,h.output,h.size,fun i hi hn=>h.block i hi fun h'=>hn (ho i h')⟩
theorem Kp.of_below {w w':World} (O:Nat->Prop) (h:Bw w w'):Kp O w w':=⟨h.os,h.tape,h.output,h.size,fun i hi _=>h.block i hi⟩
theorem Kp.of_gb {w w':World} {O:Nat->Prop} {r:Nat} (h:w.grownBy w' (some r)) (hr:O r):Kp O w w':=
 ⟨h.os,h.tape,h.output,h.size,fun i hi hn=>h.block i hi (by
  intro e;have:r=i:=by simpa using e.symm
  subst this;exact hn hr)⟩
theorem Kp.of_keeps {w w':World} {O:Nat->Prop} {x y z:Nat} (h:Keeps w w' x y z) (hx:O x) (hy:O y) (hz:O z):Kp O w w':=
 ⟨h.1,h.2.1,h.2.2.1,h.2.2.2.1,fun i hi hn=>h.2.2.2.2 i hi (by rintro rfl;exact hn hx) (by rintro rfl;exact hn hy) (by rintro rfl;exact hn hz)⟩
theorem Kp.heap {O:Nat->Prop} {w w':World} {i:Nat} {o:Obj} (h:Kp O w w') (hi:w.heap[i]?=some o) (ho:¬O i):w'.heap[i]?=some o:=
 (h.block i (hpl hi) ho).trans hi
theorem Kp.hid {O:Nat->Prop} {w w':World} {i:Nat} {o:Obj} (h:Hid (w.heap[i]?=some o)) (k:Kp O w w') (ho:¬O i):Hid (w'.heap[i]?=some o):=k.heap h.out ho
theorem Kp.blk {O:Nat->Prop} {w w':World} {e:TypeId} {g:Nat} {zs:List Int} (h:Kp O w w') (hb:Blk e w g zs) (ho:¬O g):Blk e w' g zs:=h.heap hb ho
theorem Kp.own {O:Nat->Prop} {w w':World} {e:TypeId} {size base n:Nat} {s:Value} {cs:List Value} (h:Kp O w w') (ho:w.ownsRow base e size s n cs) (hn:∀g,s.ownBlock=some g->¬O g):w'.ownsRow base e size s n cs:=by
 obtain ⟨h1,h2⟩:=ho;refine ⟨h1,?_⟩;rcases h2 with h2 | ⟨g',cap',cur,h2,hb,hh,r⟩
 ·exact .inl h2
 ·exact .inr ⟨g',cap',cur,h2,hb,h.heap hh (hn g' (by rw [h2];rfl)),r⟩
theorem Kp.below {O:Nat->Prop} {B:Nat} {a w w':World} (hb:Below B a w) (h:Kp O w w') (hB:B<=w.heap.size) (ho:∀i,O i->B<=i):Below B a w':=
 hb.trans ⟨h.os,h.tape,h.output,h.size,fun k hk=>h.block k (by omega) fun h'=>by have:=ho k h';omega⟩
theorem Kp.rows {O:Nat->Prop} {w w':World} {base gi gd gp:Nat} {k:KM} (h:Kp O w w') (hr:RowsAt w base gi gd gp k) (h1:¬O gi) (h2:¬O gd) (h3:¬O gp):RowsAt w' base gi gd gp k:=
 ⟨h.own hr.1 fun g e=>by cases e;exact h1,h.own hr.2.1 fun g e=>by cases e;exact h2,h.own hr.2.2.1 fun g e=>by cases e;exact h3,hr.2.2.2⟩
def gV (h:HartM):Array Value:=#[VU (h.regs[0]?.getD 0),VU (h.regs[1]?.getD 0),VU (h.regs[2]?.getD 0),VU (h.regs[3]?.getD 0),VU (h.regs[4]?.getD 0),VU (h.regs[5]?.getD 0),VU (h.regs[6]?.getD 0),VU (h.regs[7]?.getD 0),
 VU h.pc,VI h.mode,.bool h.sum,.bool h.mxr,VU h.satp,VU h.tvec,VU h.epc,VI h.emode,VI h.cause,VU h.tval]
def cV (h:HartM) (gm:Nat) (ov:Value) (gi gd gp:Nat) (pv:Value):Array Value:=#[VU (h.regs[0]?.getD 0),VU (h.regs[1]?.getD 0),VU (h.regs[2]?.getD 0),VU (h.regs[3]?.getD 0),VU (h.regs[4]?.getD 0),VU (h.regs[5]?.getD 0),VU (h.regs[6]?.getD 0),VU (h.regs[7]?.getD 0),
 VU h.pc,VI h.mode,.bool h.sum,.bool h.mxr,VU h.satp,VU h.tvec,VU h.epc,VI h.emode,VI h.cause,VU h.tval,
 SL gm h.mem.length h.mem.length,ov,
 VI h.k.i.sets,VI h.k.i.ways,SL gi h.k.i.es.length h.k.i.es.length,VI h.k.d.sets,VI h.k.d.ways,SL gd h.k.d.es.length h.k.d.es.length,VI h.k.p.sets,VI h.k.p.ways,SL gp h.k.p.es.length h.k.p.es.length,pv]
def oB:List (Nat × Int)->List Value
 | []=>[]
 | o::os=>.int .u64 o.1::.int .u64 o.2::oB os
theorem rt:∀a b:List (Nat × Int),oB (a++b)=oB a++oB b
 | [],b=>rfl
 | o::a,b=>by simp [oB,rt a b]
theorem yv:∀a:List (Nat × Int),(oB a).length=a.length*2
 | []=>rfl
 | o::a=>by simp [oB,yv a];omega
structure MP where
 b:Nat
 gm:Nat
 gi:Nat
 gd:Nat
 gp:Nat
 pd:TypeId
 px:Value
def MP.pv (m:MP):Value:=.iface m.pd m.px
structure MW (w:World) (O X:Nat->Prop) (m:MP) (ov:Value) (h:HartM) (ol:List (Nat × Int)):Prop where
 blk:w.heap[m.b]?=some (.cells (cV h m.gm ov m.gi m.gd m.gp m.pv) 97 (0,0))
 mem:Blk 5 w m.gm h.mem
 old:w.ownsRow 0 217 2 ov ol.length (oB ol)
 ob:O m.b
 om:O m.gm
 oo:∀g,ov.ownBlock=some g->O g∧g≠m.b∧g≠m.gm∧¬X g
 bm:m.b≠m.gm
 xb:¬X m.b
 xm:¬X m.gm
 xo:∀i,X i->O i∧i<w.heap.size
 byt:BytM h.mem
 len:h.mem.length<=4096
 regs:h.regs.length=8
 oll:ol.length<=16
 sh:∃n c a,ov=.slice a n c
 obd:∀i,O i->i<w.heap.size
 oln:∀o∈ol,o.1<h.mem.length∧0<=o.2∧o.2<=255
theorem MW.lt {w:World} {O X:Nat->Prop} {m:MP} {ov:Value} {h:HartM} {ol:List (Nat × Int)} (k:MW w O X m ov h ol):m.b<w.heap.size:=(hpl k.blk)
theorem MW.keep {w w':World} {O X:Nat->Prop} {m:MP} {ov:Value} {h:HartM} {ol:List (Nat × Int)} (k:MW w O X m ov h ol) (hk:Kp X w w'):MW w' O X m ov h ol:=
 ⟨hk.heap k.blk k.xb,hk.blk k.mem k.xm,hk.own k.old fun g e=>(k.oo g e).2.2.2,k.ob,k.om,k.oo,k.bm,k.xb,k.xm,fun i hi=>⟨(k.xo i hi).1,ltl (k.xo i hi).2 hk.size⟩,k.byt,k.len,k.regs,k.oll,k.sh,fun i hi=>ltl (k.obd i hi) hk.size,k.oln⟩
theorem MW.low {w w':World} {O X:Nat->Prop} {m:MP} {ov:Value} {h:HartM} {ol:List (Nat × Int)} (k:MW w O X m ov h ol) (hb:Bw w w'):MW w' O X m ov h ol:=k.keep (Kp.of_below X hb)
theorem MW.withK {w:World} {O X:Nat->Prop} {m:MP} {ov:Value} {h:HartM} {ol:List (Nat × Int)} (k:MW w O X m ov h ol) {q:KM} (hq:iu q m.gi m.gd m.gp=iu h.k m.gi m.gd m.gp):MW w O X m ov (withK h q) ol:=by
 refine ⟨?_,k.mem,k.old,k.ob,k.om,k.oo,k.bm,k.xb,k.xm,k.xo,k.byt,k.len,k.regs,k.oll,k.sh,k.obd,k.oln⟩;have e:cV (Go.Proofs.YtkenjknmfhoppaaGreat.withK h q) m.gm ov m.gi m.gd m.gp m.pv=cV h m.gm ov m.gi m.gd m.gp m.pv:=by
  simp only [iu,Array.mk.injEq,List.cons.injEq,Value.int.injEq,Value.slice.injEq,true_and,and_true] at hq;simp only [cV,Go.Proofs.YtkenjknmfhoppaaGreat.withK,hq]
 rw [e];exact k.blk
theorem MW.cells {w:World} {O X:Nat->Prop} {m:MP} {ov:Value} {h:HartM} {ol:List (Nat × Int)} (k:MW w O X m ov h ol):CellsM w m.b (iu h.k m.gi m.gd m.gp):=by
 refine ⟨_,k.blk,?_⟩;intro i v hv;rcases (show i=0∨i=1∨i=2∨i=3∨i=4∨i=5∨i=6∨i=7∨i=8∨9<=i by omega) with rfl | rfl | rfl | rfl | rfl | rfl | rfl | rfl | rfl | hi;all_goals first
  | exact hv
  | (rw [Array.getElem?_eq_none (by simp [iu];omega)] at hv;cases hv)
theorem bB {w:World} {b i:Nat} {A:Array Value} {T:TypeId} {v:Value} (h:w.heap[b]?=some (.cells A T (0,0))):(w.setCell (AD b i) v).heap[b]?=some (.cells (A.setIfInBounds i v) T (0,0)):=by
 simp [World.setCell,Array.getElem?_modify,h]
theorem MW.put {w w':World} {O X:Nat->Prop} {m:MP} {ov:Value} {h h':HartM} {ol:List (Nat × Int)} (k:MW w O X m ov h ol) (hg:w.grownBy w' (some m.b)) (hb:w'.heap[m.b]?=some (.cells (cV h' m.gm ov m.gi m.gd m.gp m.pv) 97 (0,0))) (hm:h'.mem=h.mem) (hr:h'.regs.length=8):MW w' O X m ov h' ol:=by
 refine ⟨hb,?_,?_,k.ob,k.om,k.oo,k.bm,k.xb,k.xm,fun i hi=>⟨(k.xo i hi).1,ltl (k.xo i hi).2 hg.size⟩,by rw [hm];exact k.byt,by rw [hm];exact k.len,hr,k.oll,k.sh,fun i hi=>ltl (k.obd i hi) hg.size,by rw [hm];exact k.oln⟩
 ·rw [hm];exact Blk.gb k.mem hg (Ne.symm k.bm)
 ·have hk:Kp (fun i=>i=m.b) w w':=Kp.of_gb hg rfl;exact hk.own k.old fun g e=>(k.oo g e).2.1
theorem lA (level:Int) (w:World) (hl:level=0∨level=1∨level=2):
 Calls Tryz.prog 163 #[VI level] w fun e w'=>e=.returned (VU (AE level-1))∧w'=w:=by
 rcases hl with rfl | rfl | rfl;all_goals
  go_enter Tryz.func163,Tryz.ntmps163;go_wp2_with (go_at_call 118;refine (dI 15 32767 _ (by omega)).mono ?_;rintro e w' ⟨rfl,rfl⟩);go_ret;exact ⟨dY (by decide),rfl⟩
theorem wD (va level:Int) (w:World) (hv0:0<=va) (hv1:va<=18446744073709551615) (hl:level=0∨level=1∨level=2):
 Calls Tryz.prog 168 #[VU va,VI level] w fun e w'=>e=.returned (VU (eg va level))∧∃n,w'=w.drewN n:=by
 rcases hl with rfl | rfl | rfl
 ·have H:=hid (eX 9 (va/64) 511 rfl (by omega) (by omega) (by omega));go_enter Tryz.func168,Tryz.ntmps168;go_wp2;go_quiet ((go_at_call 163;exact Calls.quiet_of_same (lA 0 _ (by omega))));go_wp2;go_ret;exact ⟨dY H.out,nq,rfl⟩
 ·have H:=hid (eX 6 (va/512) 63 rfl (by omega) (by omega) (by omega));go_enter Tryz.func168,Tryz.ntmps168;go_wp2;go_quiet ((go_at_call 163;exact Calls.quiet_of_same (lA 1 _ (by omega))));go_wp2;go_ret;exact ⟨dY H.out,nq,rfl⟩
 ·have H:=hid (eX 3 (va/4096) 7 rfl (by omega) (by omega) (by omega));go_enter Tryz.func168,Tryz.ntmps168;go_wp2;go_quiet ((go_at_call 163;exact Calls.quiet_of_same (lA 2 _ (by omega))));go_wp2;go_ret;exact ⟨dY H.out,nq,rfl⟩
theorem kM (satp:Int) (w:World) (h0:0<=satp) (h1:satp<=18446744073709551615):
 Calls Tryz.prog 196 #[VU satp] w fun e w'=>e=.returned (VU (aO satp))∧w'=w:=by
 have H:=hid (eX 16 (satp/17592186044416) 65535 rfl (by omega) (by omega) (by omega));go_enter Tryz.func196,Tryz.ntmps196;go_wp2_with (go_at_call 118;refine (dI 16 65535 _ (by omega)).mono ?_;rintro e w' ⟨rfl,rfl⟩);go_ret;exact ⟨dY H.out,rfl⟩
theorem Az (x level:Int) (w:World) (h0:0<=x) (h1:x<=18446744073709551615):
 Calls Tryz.prog 240 #[VU x,VI level] w fun e w'=>e=.returned (.bool (aW x level == 2))∧w'=w:=by
 go_enter Tryz.func240,Tryz.ntmps240;go_wp2_with (go_at_call 211;refine (pW x level _ h0 h1).mono ?_;rintro e w' ⟨rfl,rfl⟩);go_ret;exact ⟨aL (by simp),rfl⟩
theorem AA (x level:Int) (w:World) (h0:0<=x) (h1:x<=18446744073709551615):
 Calls Tryz.prog 241 #[VU x,VI level] w fun e w'=>e=.returned (.bool (aW x level == 1))∧w'=w:=by
 go_enter Tryz.func241,Tryz.ntmps241;go_wp2_with (go_at_call 211;refine (pW x level _ h0 h1).mono ?_;rintro e w' ⟨rfl,rfl⟩);go_ret;exact ⟨aL (by simp),rfl⟩
theorem vM (lv tg asd va:Int) (gl:Bool) (w:World) (hl:lv=0∨lv=1∨lv=2) (hv0:0<=va) (hv1:va<=18446744073709551615):
 Calls Tryz.prog 148 #[.agg #[VI lv,VU tg,VU asd,.bool gl],VU va] w fun e w'=>e=.returned (.bool (tg == eg va lv))∧Bw w w':=by
 have n1:=(Below.refl w.heap.size w).alloc nle (Obj.cells #[VI lv,VU tg,VU asd,.bool gl] 244);obtain ⟨tm,htm⟩:∃tm,eg va lv=tm:=⟨_,rfl⟩;have HT:Hid (∀w,Calls Tryz.prog 168 #[VU va,VI lv] w fun e w'=>e=.returned (VU tm)∧∃n,w'=w.drewN n):=fun w=>by
  have:=wD va lv w hv0 hv1 hl;rw [htm] at this;exact this
 rw [htm];clear htm;go_enter Tryz.func148,Tryz.ntmps148;go_wp2;go_quiet ((go_at_call 168;exact Calls.quiet_of (HT.out _)));go_wp2;go_ret;exact ⟨rfl,below_drewN n1 nq⟩
theorem F8 (lv tg asd va asid:Int) (gl:Bool) (w:World) (hl:lv=0∨lv=1∨lv=2) (hv0:0<=va) (hv1:va<=18446744073709551615):
 Calls Tryz.prog 231 #[.agg #[VI lv,VU tg,VU asd,.bool gl],VU va,VU asid] w fun e w'=>e=.returned (.bool ((tg == eg va lv) && (gl || asd == asid)))∧Bw w w':=by
 have n1:=(Below.refl w.heap.size w).alloc nle (Obj.cells #[VI lv,VU tg,VU asd,.bool gl] 244);have H1:Hid ((w.alloc (Obj.cells #[VI lv,VU tg,VU asd,.bool gl] 244)).heap[w.heap.size]?=some (.cells #[VI lv,VU tg,VU asd,.bool gl] 244 (0,0))):=fE w _;obtain ⟨sb,hsb⟩:∃sb,(tg == eg va lv)=sb:=⟨_,rfl⟩;have HS:Hid (∀w,Calls Tryz.prog 148 #[.agg #[VI lv,VU tg,VU asd,.bool gl],VU va] w fun e w'=>e=.returned (.bool sb)∧Bw w w'):=fun w=>by
  have:=vM lv tg asd va gl w hl hv0 hv1;rw [hsb] at this;exact this
 rw [hsb];clear hsb;cases sb <;> cases gl;all_goals
  go_enter Tryz.func231,Tryz.ntmps231;go_wp2_with fail;generalize hv1:w.alloc _=v1 at n1 H1 |-;refine (HS.out v1).mono ?_;rintro e v2 ⟨rfl,n2⟩;have K1:=ae H1.out n2 (hpl H1.out);obtain ⟨⟨x0,x1,x2,x3⟩,_,_,_,_⟩:=aP K1;have A2:=bst n1 n2;go_wp2;go_ret;exact ⟨aL (by simp),A2⟩
def Eu (f:FenceM) (lv tg asd:Int) (gl:Bool):Bool:=(!f.hasVa || tg == eg f.va lv) && (!f.hasAsid || (!gl && asd == f.asid))
theorem rq (f:FenceM) (lv tg asd:Int) (gl:Bool) (h:f.hasVa=false∨de f.va=true):Eu f lv tg asd gl=eS f lv tg asd gl:=by
 unfold Eu eS;rcases h with h | h
 ·rw [h];simp
 ·rw [h];cases f.hasVa <;> simp [bne]
theorem Ak (f:FenceM) (lv tg asd:Int) (gl:Bool) (h1:f.hasVa=true) (h2:de f.va=false):eS f lv tg asd gl=false:=by
 unfold eS;rw [h1,h2];simp
theorem sJ (lv tg asd:Int) (gl:Bool) (w:World):
 Calls Tryz.prog 146 #[.agg #[VI lv,VU tg,VU asd,.bool gl]] w fun e w'=>e=.returned (.bool false)∧Bw w w':=by
 have n1:=(Below.refl w.heap.size w).alloc nle (Obj.cells #[VI lv,VU tg,VU asd,.bool gl] 244);go_enter Tryz.func146,Tryz.ntmps146;go_wp2;go_ret;exact ⟨rfl,by first | exact n1 | exact brf⟩
theorem sK (hv:Bool) (fva:Int) (ha:Bool) (fa:Int) (lv tg asd:Int) (gl:Bool) (pf pv:Nat) (w:World) (hl:lv=0∨lv=1∨lv=2) (hv0:0<=fva) (hv1:fva<=18446744073709551615)
 (hF:w.heap[pf]?=some (.cells #[.bool hv,VU fva,.bool ha,VU fa] 59 (0,0))) (hV:w.heap[pv]?=some (.cells #[VU fva] 260 (0,0))):
 Calls Tryz.prog 147 #[.agg #[VI lv,VU tg,VU asd,.bool gl],PT pf 0,PT pv 0] w fun e w'=>e=.returned (.bool (Eu ⟨hv,fva,ha,fa⟩ lv tg asd gl))∧Bw w w':=by
 have n1:=(Below.refl w.heap.size w).alloc nle (Obj.cells #[VI lv,VU tg,VU asd,.bool gl] 244);have H1:Hid ((w.alloc (Obj.cells #[VI lv,VU tg,VU asd,.bool gl] 244)).heap[w.heap.size]?=some (.cells #[VI lv,VU tg,VU asd,.bool gl] 244 (0,0))):=fE w _;have lf:=(hpl hF);have lv':=(hpl hV);have F1:=hid (ae hF n1 lf);have V1:=hid (ae hV n1 lv');obtain ⟨sb,hsb⟩:∃sb,(tg == eg fva lv)=sb:=⟨_,rfl⟩;have HSp:Hid (∀w,Calls Tryz.prog 148 #[.agg #[VI lv,VU tg,VU asd,.bool gl],VU fva] w fun e w'=>e=.returned (.bool sb)∧Bw w w'):=fun w=>by
  have:=vM lv tg asd fva gl w hl hv0 hv1;rw [hsb] at this;exact this
 have hcov:Eu ⟨hv,fva,ha,fa⟩ lv tg asd gl=((!hv || sb) && (!ha || (!gl && asd == fa))):=by unfold Eu;rw [hsb]
 rw [hcov];obtain ⟨⟨f0,f1,f2,f3⟩,_,_,_,_⟩:=aP hF;have vc:w.cell? (AD pv 0)=some (VU fva):=by simp [World.cell?,hV]
 clear hsb hcov hF hV;cases hv
 ·cases ha
  ·go_enter Tryz.func147,Tryz.ntmps147;go_wp2;go_ret;exact ⟨aL (by simp),n1⟩
  ·cases gl;all_goals
    go_enter Tryz.func147,Tryz.ntmps147;go_wp2;go_ret;exact ⟨aL (by simp),n1⟩
 ·cases ha
  ·cases sb;all_goals
    go_enter Tryz.func147,Tryz.ntmps147;go_wp2_with fail;generalize w.alloc (Obj.cells #[VI lv,VU tg,VU asd,.bool gl] 244)=v1 at n1 H1 F1 V1 |-;refine (HSp.out v1).mono ?_;rintro e v2 ⟨rfl,n2⟩;have A2:=bst n1 n2;have F2:=ah F1 n2;have R2:=ah H1 n2;clear f0 f1 f2 f3 vc;obtain ⟨⟨f0,f1,f2,f3⟩,_,_,_,_⟩:=aP F2.out;obtain ⟨⟨r0,r1,r2,r3⟩,_,_,_,_⟩:=aP R2.out;go_wp2;go_ret;exact ⟨aL (by simp),A2⟩
  ·cases sb <;> cases gl;all_goals
    go_enter Tryz.func147,Tryz.ntmps147;go_wp2_with fail;generalize hv1:w.alloc _=v1 at n1 H1 F1 V1 |-;refine (HSp.out v1).mono ?_;rintro e v2 ⟨rfl,n2⟩;have A2:=bst n1 n2;have F2:=ah F1 n2;have R2:=ah H1 n2;clear f0 f1 f2 f3 vc;obtain ⟨⟨f0,f1,f2,f3⟩,_,_,_,_⟩:=aP F2.out;obtain ⟨⟨r0,r1,r2,r3⟩,_,_,_,_⟩:=aP R2.out;go_wp2;go_ret;exact ⟨aL (by simp),A2⟩
def It (base:Nat) (w:World) (e:Ending) (f:FenceM):Prop:=
 (f.hasVa=true∧de f.va=false∧e=.returned (.func (.func 146) #[] #[]))∨
 ((f.hasVa=false∨de f.va=true)∧∃pf pv,e=.returned (.func (.func 147) #[] #[PT pf 0,PT pv 0])∧base<=pf∧base<=pv∧
  w.heap[pf]?=some (.cells #[.bool f.hasVa,VU f.va,.bool f.hasAsid,VU f.asid] 59 (0,0))∧w.heap[pv]?=some (.cells #[VU f.va] 260 (0,0)))
theorem sL (hv:Bool) (fva:Int) (ha:Bool) (fa:Int) (w:World) (hv0:0<=fva) (hv1:fva<=18446744073709551615):
 Calls Tryz.prog 117 #[.agg #[.bool hv,VU fva,.bool ha,VU fa]] w fun e w'=>It w.heap.size w' e ⟨hv,fva,ha,fa⟩∧Bw w w':=by
 have n1:=((Below.refl w.heap.size w).alloc nle (Obj.cells #[.bool hv,VU fva,.bool ha,VU fa] 59)).alloc (by simp) (Obj.cells #[VU fva] 260);have H1:Hid (((w.alloc (Obj.cells #[.bool hv,VU fva,.bool ha,VU fa] 59)).alloc (Obj.cells #[VU fva] 260)).heap[w.heap.size]?=some (.cells #[.bool hv,VU fva,.bool ha,VU fa] 59 (0,0))):=by
  show _=_;rw [zF _ _ (by simp)];exact fE w _
 have H2:Hid (((w.alloc (Obj.cells #[.bool hv,VU fva,.bool ha,VU fa] 59)).alloc (Obj.cells #[VU fva] 260)).heap[w.heap.size+1]?=some (.cells #[VU fva] 260 (0,0))):=by
  have:=fE (w.alloc (Obj.cells #[.bool hv,VU fva,.bool ha,VU fa] 59)) (Obj.cells #[VU fva] 260);simp only [World.size_alloc] at this;exact this
 obtain ⟨cb,hcb⟩:∃cb,de fva=cb:=⟨_,rfl⟩;have HCan:Hid (∀u:World,Calls Tryz.prog 145 #[VU fva] u fun e w'=>e=.returned (.bool cb)∧w'=u):=fun u=>by
  have:=ij fva u hv0 hv1;rw [hcb] at this;exact this
 have HCb:=hid hcb;clear hcb;cases hv
 ·go_enter Tryz.func117,Tryz.ntmps117;go_wp2;go_ret;exact ⟨.inr ⟨.inl rfl,_,_,rfl,nle,by omega,H1.out,H2.out⟩,n1⟩
 ·cases cb
  ·go_enter Tryz.func117,Tryz.ntmps117;go_wp2_with (go_at_call 145;refine (HCan.out _).mono ?_;rintro e w' ⟨rfl,rfl⟩);go_ret;exact ⟨.inl ⟨rfl,HCb.out,rfl⟩,n1⟩
  ·go_enter Tryz.func117,Tryz.ntmps117;go_wp2_with (go_at_call 145;refine (HCan.out _).mono ?_;rintro e w' ⟨rfl,rfl⟩);go_ret;exact ⟨.inr ⟨.inr HCb.out,_,_,rfl,nle,by omega,H1.out,H2.out⟩,n1⟩
def CovVal (B:Nat) (w:World) (cv:Value) (f:FenceM):Prop:=
 (f.hasVa=true∧de f.va=false∧cv=.func (.func 146) #[] #[])∨
 ((f.hasVa=false∨de f.va=true)∧∃pf pv,cv=.func (.func 147) #[] #[PT pf 0,PT pv 0]∧pf<B∧pv<B∧
  w.heap[pf]?=some (.cells #[.bool f.hasVa,VU f.va,.bool f.hasAsid,VU f.asid] 59 (0,0))∧w.heap[pv]?=some (.cells #[VU f.va] 260 (0,0)))
theorem CovVal.keep {B:Nat} {w w':World} {cv:Value} {f:FenceM} (h:CovVal B w cv f) (hb:Bw w w'):CovVal B w' cv f:=by
 rcases h with h | ⟨h1,pf,pv,rfl,lf,lp,hF,hV⟩
 ·exact .inl h
 ·exact .inr ⟨h1,pf,pv,rfl,lf,lp,ae hF hb (hpl hF),ae hV hb (hpl hV)⟩
theorem CovVal.up {B B':Nat} {w:World} {cv:Value} {f:FenceM} (h:CovVal B w cv f) (hb:B<=B'):CovVal B' w cv f:=by
 rcases h with h | ⟨h1,pf,pv,rfl,lf,lp,hF,hV⟩
 ·exact .inl h
 ·exact .inr ⟨h1,pf,pv,rfl,by omega,by omega,hF,hV⟩
def ki (h:HartM):Value:=.agg #[VI h.mode,.bool h.sum,.bool h.mxr,VU h.satp]
structure SameC (c:Nat) (r:RunM) (h0:HartM):Prop where
 mem:r.h.mem=h0.mem
 mode:r.h.mode=h0.mode
 sum:r.h.sum=h0.sum
 mxr:r.h.mxr=h0.mxr
 satp:r.h.satp=h0.satp
 nf:r.fenced=false
 few:r.looks.length<=c
theorem SameC.up {c:Nat} {r:RunM} {h0:HartM} (h:SameC c r h0):SameC (c+1) r h0:=⟨h.mem,h.mode,h.sum,h.mxr,h.satp,h.nf,Nat.le_succ_of_le h.few⟩
def ow (plain:Bool) (r:RunM) (f:FenceM):RunM:=⟨if plain=true then r.h else withK r.h (jl r.h.k f),r.cause,r.tval,r.looks,true,f⟩
def CovFree (X:Nat->Prop) (w:World) (cv:Value) (f:FenceM):Prop:=
 (f.hasVa=true∧de f.va=false∧cv=.func (.func 146) #[] #[])∨
 ((f.hasVa=false∨de f.va=true)∧∃pf pv,cv=.func (.func 147) #[] #[PT pf 0,PT pv 0]∧¬X pf∧¬X pv∧
  w.heap[pf]?=some (.cells #[.bool f.hasVa,VU f.va,.bool f.hasAsid,VU f.asid] 59 (0,0))∧w.heap[pv]?=some (.cells #[VU f.va] 260 (0,0)))
theorem CovFree.kp {X:Nat->Prop} {w w':World} {cv:Value} {f:FenceM} (h:CovFree X w cv f) (hk:Kp X w w'):CovFree X w' cv f:=by
 rcases h with h | ⟨h1,pf,pv,rfl,lf,lp,hF,hV⟩
 ·exact .inl h
 ·exact .inr ⟨h1,pf,pv,rfl,lf,lp,hk.heap hF lf,hk.heap hV lp⟩
def Hr (m:MP) (plain:Bool) (pick:Int) (X:Nat->Prop) (PA:World->RunM->Prop) (r:RunM) (kind va:Int) (w:World) (e:Ending) (w':World):Prop:=
 ∃pa code,e=.returned (.tuple #[VU pa,cK code])∧(code=1∨code=2∨code=3)∧(aV plain pick r.h kind va).1=(if code=1 then 0 else if code=2 then fk kind else bY kind,pa)∧PA w' (bf plain pick r kind va)∧Kp X w w'
structure PathOk (m:MP) (plain:Bool) (pick:Int) (h0:HartM) (X:Nat->Prop) (PI:World->Prop) (PA:World->RunM->Prop):Prop where
 frame:∀w w' r,PA w r->w.heap.size<=w'.heap.size->(∀i,X i->w'.heap[i]?=w.heap[i]?)->PA w' r
 framei:∀w w',PI w->w.heap.size<=w'.heap.size->(∀i,X i->w'.heap[i]?=w.heap[i]?)->PI w'
 congr:∀w r r',PA w r->r'.h.k=r.h.k->r'.looks=r.looks->r'.fenced=r.fenced->r'.fence=r.fence->PA w r'
 phys:∀w r sv kind va,PA w r->CellsM w m.b (iu r.h.k m.gi m.gd m.gp)->(∀u,Kp X w u->SrcAt u sv r.h.mem)->SameC 2 r h0->ROk r->0<=kind->kind<=2->inU va->
  ∃fn rv,(method 444 m.pd m.px "loop.example/s0051/impl.phys").run Tryz.prog w=.ok (fn,rv) w∧(∀args u,(callFunc fn args).run Tryz.prog u=.ok (.enter fn args) u)∧
   Calls Tryz.prog fn #[rv,sv,ki r.h,VI kind,VU va] w fun e w'=>Hr m plain pick X PA r kind va w e w'
 fence:∀w r cv f,PA w r->CellsM w m.b (iu r.h.k m.gi m.gd m.gp)->CovFree X w cv f->SameC 2 r h0->ROk r->inU f.va->inU f.asid->
  ∃fn rv,(method 444 m.pd m.px "loop.example/s0051/impl.fence").run Tryz.prog w=.ok (fn,rv) w∧(∀args u,(callFunc fn args).run Tryz.prog u=.ok (.enter fn args) u)∧
   Calls Tryz.prog fn #[rv,cv] w fun e w'=>e=.returned (.tuple #[])∧PA w' (ow plain r f)∧Kp X w w'
 begin:∀w,PI w->CellsM w m.b (iu h0.k m.gi m.gd m.gp)->HOk h0->
  ∃fn rv,(method 444 m.pd m.px "loop.example/s0051/impl.begin").run Tryz.prog w=.ok (fn,rv) w∧(∀args u,(callFunc fn args).run Tryz.prog u=.ok (.enter fn args) u)∧
   Calls Tryz.prog fn #[rv,VI pick] w fun e w'=>e=.returned (.tuple #[])∧PA w' (bI plain pick h0)∧Kp X w w'
theorem PathOk.keep {m:MP} {plain:Bool} {pick:Int} {h0:HartM} {X:Nat->Prop} {PI:World->Prop} {PA:World->RunM->Prop} (k:PathOk m plain pick h0 X PI PA) {w w':World} {r:RunM} (h:PA w r) {O:Nat->Prop} (hx:∀i,X i->i<w.heap.size) (hk:Kp O w w') (ho:∀i,X i->¬O i):PA w' r:=
 k.frame w w' r h hk.size fun i hi=>hk.block i (hx i hi) (ho i hi)
theorem MW.box {w v u:World} {O X:Nat->Prop} {m:MP} {ov:Value} {h h':HartM} {ol ol':List (Nat × Int)} (k0:MW w O X m ov h' ol') (k:MW v O X m ov h ol) {g:Nat} (hg:v.grownBy u (some g)) (hw:w.heap.size<=g):MW u O X m ov h ol:=by
 have hk:=Kp.of_gb hg rfl;have l1:=k0.lt;have l2:=k0.mem.lt;refine ⟨hk.heap k.blk (by omega),hk.blk k.mem (by omega),hk.own k.old fun g' e=>?_,k.ob,k.om,k.oo,k.bm,k.xb,k.xm,fun i hi=>⟨(k.xo i hi).1,ltl (k.xo i hi).2 hg.size⟩,k.byt,k.len,k.regs,k.oll,k.sh,fun i hi=>ltl (k.obd i hi) hg.size,k.oln⟩;have:=(k0.old.lt g' e).2;omega
theorem Kp.box {O:Nat->Prop} {w v u:World} (h:Kp O w v) {g:Nat} (hg:v.grownBy u (some g)) (hw:w.heap.size<=g):Kp O w u:=
 h.trans' (O':=fun i=>i=g) (Kp.of_gb hg rfl) fun i hi e=>by omega
theorem PathOk.box {m:MP} {plain:Bool} {pick:Int} {h0:HartM} {X:Nat->Prop} {PI:World->Prop} {PA:World->RunM->Prop} (k:PathOk m plain pick h0 X PI PA) {v u:World} {r:RunM} (h:PA v r) {g:Nat} (hx:∀i,X i->i<v.heap.size) (hg:v.grownBy u (some g)) (hn:¬X g):PA u r:=
 k.keep h hx (O:=fun i=>i=g) (Kp.of_gb hg rfl) fun i hi e=>hn (e ▸ hi)
theorem DW (b:Nat) (w:World):(method 444 212 (PT b 18) "loop.example/s0051/impl.entryAt").run Tryz.prog w=(do let v <-loadVar 82 (AD b 18);pure (221,v):Sem (FuncId × Value)).run Tryz.prog w:=by kernel_rfl
theorem FO {w:World} {O X:Nat->Prop} {m:MP} {ov:Value} {h:HartM} {ol:List (Nat × Int)} (k:MW w O X m ov h ol):SrcAt w (.iface 212 (PT m.b 18)) h.mem:=by
 refine ⟨_,_,some (AD m.gm 0),h.mem.length,h.mem.length,rfl,?_,Blk.byt k.mem k.byt,by have:=k.len;omega⟩;intro u hu;have hc:u.cell? (AD m.b 18)=some (SL m.gm h.mem.length h.mem.length):=ab (ae k.blk hu k.lt) 18 rfl;rw [DW];simp [go_sem,hc]
end Go.Proofs.YtkenjknmfhoppaaGreat
