import Derived.Test.YtkenjknmfhoppaaGreatSk12
import Derived.Maps.RangeWalk
import Derived.Test.YtkenjknmfhoppaaGreatSk09
namespace Go.Proofs.YtkenjknmfhoppaaGreat
open Go.RowKit
set_option linter.unusedVariables false
set_option maxHeartbeats 6400000
set_option maxRecDepth 20000
theorem CZ (z:EntM) (n:Nat):(madeCells (fG z).toArray (n*6)).toList=aI (List.replicate n z):=by
 apply List.ext_getElem?;intro j;by_cases hj:j<n*6
 ·have hq:j/6<(List.replicate n z).length:=by simp;omega
  have:=mT (List.replicate n z) (j/6) (j%6) hq (by omega);rw [show j/6*6+j%6=j by omega] at this;rw [this];have h6:j%6<(fG z).length:=by simp [fG];omega
  simp only [madeCells,List.getElem_replicate];rw [geg h6];simp [hj,fG];rw [geg (by simpa [fG] using h6)];rfl
 ·rw [List.getElem?_eq_none (by simp [madeCells];omega),List.getElem?_eq_none (by rw [eN];simp;omega)]
theorem xM (v:World) (T E:TypeId) (xs cs:Array Value) (ss:List Value) (n:Nat) (hcs:cs.toList=ss) (hn:ss.length=n*6) (hm:n<=maxLen):
 ((v.alloc (.cells cs E)).alloc (.cells xs T)).drew.heap[v.heap.size+1]?=some (.cells xs T (0,0))∧((v.alloc (.cells cs E)).alloc (.cells xs T)).drew.ownsRow v.heap.size E 6 (SL v.heap.size n n) n ss∧
  Bw v ((v.alloc (.cells cs E)).alloc (.cells xs T)).drew∧v.heap.size+1<((v.alloc (.cells cs E)).alloc (.cells xs T)).drew.heap.size:=by
 have hs:cs.size=n*6:=by rw [<-hn,<-hcs];simp
 have h1:=World.ownsRow_lit (e:=E) (size:=6) v cs n (Nat.le_refl v.heap.size) hm hs;rw [hcs] at h1;refine ⟨?_,aj h1 (((brf).alloc nle _).drew),(((Below.refl v.heap.size v).alloc nle _).alloc (by simp) _).drew,?_⟩
 ·have:=er (v.alloc (.cells cs E)) (.cells xs T);simp only [World.size_alloc] at this;exact this
 ·show _<((v.alloc (.cells cs E)).alloc (.cells xs T)).heap.size;simp
theorem xN (v:World) (T E:TypeId) (xs cs:Array Value) (ss:List Value) (n:Nat) (hcs:cs.toList=ss) (hn:ss.length=n*6) (hm:n<=maxLen):
 ((v.alloc (.cells xs T)).alloc (.cells cs E)).drew.heap[v.heap.size]?=some (.cells xs T (0,0))∧((v.alloc (.cells xs T)).alloc (.cells cs E)).drew.ownsRow v.heap.size E 6 (.slice (some ⟨v.heap.size+1,0,none⟩) n n) n ss∧
  Bw v ((v.alloc (.cells xs T)).alloc (.cells cs E)).drew∧v.heap.size<((v.alloc (.cells xs T)).alloc (.cells cs E)).drew.heap.size:=by
 have hs:cs.size=n*6:=by rw [<-hn,<-hcs];simp
 have h1:=World.ownsRow_lit (e:=E) (size:=6) (v.alloc (.cells xs T)) cs n (base:=v.heap.size) (by simp) hm hs;rw [hcs] at h1;simp only [World.size_alloc] at h1;refine ⟨?_,h1,(((Below.refl v.heap.size v).alloc nle _).alloc (by simp) _).drew,?_⟩
 ·show ((v.alloc (.cells xs T)).alloc (.cells cs E)).heap[v.heap.size]?=_;rw [rf _ _ (by simp)];exact er v _
 ·show _<((v.alloc (.cells xs T)).alloc (.cells cs E)).heap.size;simp;omega
theorem io {w:World} {g n:Nat} {es:List EntM} (h:RowC w (some (AD g 0)) n 6 (aI es)) (hn:es.length=n) (k:Nat) (x:EntM) (hx:es[k]?=some x) (j:Nat) (v:Value) (hj:j<6) (hv:(fG x)[j]?=some v):
 w.cell? ⟨g,k*6+j,none⟩=some v:=by
 have hk:=(List.getElem?_eq_some_iff.1 hx).1;rcases h.2 with h0 | ⟨b',off',e,_,hc⟩
 ·omega
 ·simp at e;obtain ⟨rfl,rfl⟩:=e;have:=hc (k*6+j) v (by
   rw [mT es k j hk hj];obtain ⟨_,rfl⟩:=List.getElem?_eq_some_iff.1 hx;exact hv)
  rw [Nat.zero_add] at this;exact this
theorem uC {w w':World} {r:Option Nat} (h:Bw w w'):w.grownBy w' r:=
 ⟨h.os,h.tape,h.output,h.size,fun i hi _=>h.block i hi⟩
theorem rJ (w:World) (r:Option Nat):w.grownBy w.drew r:=uC (brf).drew
theorem FR {B:Nat} {a w:World} {g:Nat} (h:Below B a w) (hg:B<=g) (x y z u:Value):Below B a ((((w.setCell (AD g 0) x).setCell (AD g 1) y).setCell (AD g 2) z).setCell (AD g 3) u):=
 (gQ h hg x y z).setCell (p:=(AD g 3)) hg u
theorem iK {v:World} {p:Nat} {cs:Array Value} {T:TypeId} (h:v.heap[p]?=some (.cells cs T (0,0))) (i:Nat) (x:Value) (hx:cs[i]?=some x):v.cell? (AD p i)=some x:=by
 simp [World.cell?,h,hx]
def Keeps (w w':World) (x y z:Nat):Prop:=
 w'.os=w.os∧w'.tape=w.tape∧w'.output=w.output∧w.heap.size<=w'.heap.size∧∀i,i<w.heap.size->i≠x->i≠y->i≠z->w'.heap[i]?=w.heap[i]?
theorem Keeps.refl (w:World) (x y z:Nat):Keeps w w x y z:=⟨rfl,rfl,rfl,nle,fun _ _ _ _ _=>rfl⟩
theorem Keeps.of_below {w w':World} (x y z:Nat) (h:Bw w w'):Keeps w w' x y z:=⟨h.os,h.tape,h.output,h.size,fun i hi _ _ _=>h.block i hi⟩
theorem Keeps.of_gb {w w':World} {r:Nat} (x y z:Nat) (h:w.grownBy w' (some r)) (hr:r=x∨r=y∨r=z):Keeps w w' x y z:=
 ⟨h.os,h.tape,h.output,h.size,fun i hi h1 h2 h3=>h.block i hi (by
  simp only [ne_eq,Option.some.injEq];rcases hr with rfl | rfl | rfl <;> (intro e;subst e;contradiction))⟩
theorem Keeps.trans {a b c:World} {x y z:Nat} (h:Keeps a b x y z) (k:Keeps b c x y z):Keeps a c x y z:=
 ⟨k.1.trans h.1,k.2.1.trans h.2.1,k.2.2.1.trans h.2.2.1,Nat.le_trans h.2.2.2.1 k.2.2.2.1,fun i hi h1 h2 h3=>(k.2.2.2.2 i (ltl hi h.2.2.2.1) h1 h2 h3).trans (h.2.2.2.2 i hi h1 h2 h3)⟩
theorem Keeps.heap {w w':World} {x y z i:Nat} {o:Obj} (h:Keeps w w' x y z) (hi:w.heap[i]?=some o) (h1:i≠x) (h2:i≠y) (h3:i≠z):w'.heap[i]?=some o:=
 (h.2.2.2.2 i (hpl hi) h1 h2 h3).trans hi
theorem Keeps.below {w w' a:World} {B x y z:Nat} (hb:Below B a w) (h:Keeps w w' x y z) (hB:B<=w.heap.size) (h1:B<=x) (h2:B<=y) (h3:B<=z):Below B a w':=
 hb.trans ⟨h.1,h.2.1,h.2.2.1,h.2.2.2.1,fun k hk=>h.2.2.2.2 k (by omega) (by omega) (by omega) (by omega)⟩
def iw (k:KM) (gi gd gp:Nat):Array Value:=
 #[VI k.i.sets,VI k.i.ways,SL gi k.i.es.length k.i.es.length,VI k.d.sets,VI k.d.ways,SL gd k.d.es.length k.d.es.length,VI k.p.sets,VI k.p.ways,SL gp k.p.es.length k.p.es.length]
def RowsAt (w:World) (base gi gd gp:Nat) (k:KM):Prop:=
 w.ownsRow base 246 6 (SL gi k.i.es.length k.i.es.length) k.i.es.length (aI k.i.es)∧
 w.ownsRow base 246 6 (SL gd k.d.es.length k.d.es.length) k.d.es.length (aI k.d.es)∧
 w.ownsRow base 251 6 (SL gp k.p.es.length k.p.es.length) k.p.es.length (aI k.p.es)∧gi≠gd∧gi≠gp∧gd≠gp
theorem RowsAt.keep {w w':World} {base gi gd gp:Nat} {k:KM} (h:RowsAt w base gi gd gp k) (hb:Bw w w'):RowsAt w' base gi gd gp k:=
 ⟨aj h.1 hb,aj h.2.1 hb,aj h.2.2.1 hb,h.2.2.2⟩
theorem jR {e:TypeId} {size:Nat} {w w':World} {base n r g c:Nat} {cs:List Value} (h:w.ownsRow base e size (SL g n c) n cs) (hg:w.grownBy w' (some r)) (hr:g≠r):w'.ownsRow base e size (SL g n c) n cs:=by
 refine h.kept hg (.inr ?_);simp [Value.ownBlock];exact hr
theorem RowsAt.putP {w w':World} {base gi gd gp:Nat} {k:KM} {es:List EntM} (h:RowsAt w base gi gd gp k) (hg:w.grownBy w' (some gp)) (hl:es.length=k.p.es.length) (ho:w'.ownsRow base 251 6 (SL gp k.p.es.length k.p.es.length) k.p.es.length (aI es)):
 RowsAt w' base gi gd gp ⟨k.i,k.d,⟨k.p.sets,k.p.ways,es⟩⟩:=by
 obtain ⟨h1,h2,h3,d1,d2,d3⟩:=h;refine ⟨jR h1 hg d2,jR h2 hg d3,?_,d1,d2,d3⟩;simp only;rw [hl];exact ho
theorem RowsAt.putI {w w':World} {base gi gd gp:Nat} {k:KM} {es:List EntM} (h:RowsAt w base gi gd gp k) (hg:w.grownBy w' (some gi)) (hl:es.length=k.i.es.length) (ho:w'.ownsRow base 246 6 (SL gi k.i.es.length k.i.es.length) k.i.es.length (aI es)):
 RowsAt w' base gi gd gp ⟨⟨k.i.sets,k.i.ways,es⟩,k.d,k.p⟩:=by
 obtain ⟨h1,h2,h3,d1,d2,d3⟩:=h;refine ⟨?_,jR h2 hg (Ne.symm d1),jR h3 hg (Ne.symm d2),d1,d2,d3⟩;simp only;rw [hl];exact ho
theorem RowsAt.putD {w w':World} {base gi gd gp:Nat} {k:KM} {es:List EntM} (h:RowsAt w base gi gd gp k) (hg:w.grownBy w' (some gd)) (hl:es.length=k.d.es.length) (ho:w'.ownsRow base 246 6 (SL gd k.d.es.length k.d.es.length) k.d.es.length (aI es)):
 RowsAt w' base gi gd gp ⟨k.i,⟨k.d.sets,k.d.ways,es⟩,k.p⟩:=by
 obtain ⟨h1,h2,h3,d1,d2,d3⟩:=h;refine ⟨jR h1 hg d1,?_,jR h3 hg (Ne.symm d3),d1,d2,d3⟩;simp only;rw [hl];exact ho
def SetAt (w:World) (b base gi gd gp:Nat) (k:KM):Prop:=
 w.heap[b]?=some (.cells (iw k gi gd gp) 93 (0,0))∧RowsAt w base gi gd gp k∧b≠gi∧b≠gd∧b≠gp
theorem SetAt.keep {w w':World} {b base gi gd gp:Nat} {k:KM} (h:SetAt w b base gi gd gp k) (hb:Bw w w'):SetAt w' b base gi gd gp k:=
 ⟨ag h.1 hb (hpl h.1),h.2.1.keep hb,h.2.2⟩
theorem SetAt.lt {w:World} {b base gi gd gp:Nat} {k:KM} (h:SetAt w b base gi gd gp k):b<w.heap.size:=(hpl h.1)
theorem SetAt.cellI {w:World} {b base gi gd gp:Nat} {k:KM} (h:SetAt w b base gi gd gp k):
 w.cell? (AD b 0)=some (VI k.i.sets)∧w.cell? ⟨b,0+1,none⟩=some (VI k.i.ways)∧w.cell? ⟨b,0+2,none⟩=some (SL gi k.i.es.length k.i.es.length):=
 ⟨iK h.1 0 _ rfl,iK h.1 1 _ rfl,iK h.1 2 _ rfl⟩
theorem SetAt.cellD {w:World} {b base gi gd gp:Nat} {k:KM} (h:SetAt w b base gi gd gp k):
 w.cell? (AD b 3)=some (VI k.d.sets)∧w.cell? ⟨b,3+1,none⟩=some (VI k.d.ways)∧w.cell? ⟨b,3+2,none⟩=some (SL gd k.d.es.length k.d.es.length):=
 ⟨iK h.1 3 _ rfl,iK h.1 4 _ rfl,iK h.1 5 _ rfl⟩
theorem SetAt.cellP {w:World} {b base gi gd gp:Nat} {k:KM} (h:SetAt w b base gi gd gp k):
 w.cell? (AD b 6)=some (VI k.p.sets)∧w.cell? ⟨b,6+1,none⟩=some (VI k.p.ways)∧w.cell? ⟨b,6+2,none⟩=some (SL gp k.p.es.length k.p.es.length):=
 ⟨iK h.1 6 _ rfl,iK h.1 7 _ rfl,iK h.1 8 _ rfl⟩
theorem kO (level:Int) (w:World) (hl:level=0∨level=1∨level=2):
 Calls Tryz.prog 163 #[VI level] w fun e w'=>e=.returned (VU (mh level-1))∧w'=w:=by
 rcases hl with rfl | rfl | rfl;all_goals
  go_enter Tryz.func163,Tryz.ntmps163;go_wp2_with (go_at_call 118;refine (dB 15 32767 _ (by omega)).mono ?_;rintro e w' ⟨rfl,rfl⟩);go_ret;exact ⟨dW (by decide),rfl⟩
theorem zl (va level:Int) (w:World) (hv0:0<=va) (hv1:va<=18446744073709551615) (hl:level=0∨level=1∨level=2):
 Calls Tryz.prog 168 #[VU va,VI level] w fun e w'=>e=.returned (VU (gx va level))∧∃n,w'=w.drewN n:=by
 rcases hl with rfl | rfl | rfl
 ·have H:=hid (eX 9 (va/64) 511 rfl (by omega) (by omega) (by omega));go_enter Tryz.func168,Tryz.ntmps168;go_wp2;go_quiet ((go_at_call 163;exact Calls.quiet_of_same (kO 0 _ (by omega))));go_wp2;go_ret;exact ⟨dW H.out,nq,rfl⟩
 ·have H:=hid (eX 6 (va/512) 63 rfl (by omega) (by omega) (by omega));go_enter Tryz.func168,Tryz.ntmps168;go_wp2;go_quiet ((go_at_call 163;exact Calls.quiet_of_same (kO 1 _ (by omega))));go_wp2;go_ret;exact ⟨dW H.out,nq,rfl⟩
 ·have H:=hid (eX 3 (va/4096) 7 rfl (by omega) (by omega) (by omega));go_enter Tryz.func168,Tryz.ntmps168;go_wp2;go_quiet ((go_at_call 163;exact Calls.quiet_of_same (kO 2 _ (by omega))));go_wp2;go_ret;exact ⟨dW H.out,nq,rfl⟩
theorem mS (satp:Int) (w:World) (h0:0<=satp) (h1:satp<=18446744073709551615):
 Calls Tryz.prog 196 #[VU satp] w fun e w'=>e=.returned (VU (aK satp))∧w'=w:=by
 have H:=hid (eX 16 (satp/17592186044416) 65535 rfl (by omega) (by omega) (by omega));go_enter Tryz.func196,Tryz.ntmps196;go_wp2_with (go_at_call 118;refine (dB 16 65535 _ (by omega)).mono ?_;rintro e w' ⟨rfl,rfl⟩);go_ret;exact ⟨dW H.out,rfl⟩
theorem zm (x level:Int) (w:World) (h0:0<=x) (h1:x<=18446744073709551615):
 Calls Tryz.prog 240 #[VU x,VI level] w fun e w'=>e=.returned (.bool (bH x level == 2))∧w'=w:=by
 go_enter Tryz.func240,Tryz.ntmps240;go_wp2_with (go_at_call 211;refine (pN x level _ h0 h1).mono ?_;rintro e w' ⟨rfl,rfl⟩);go_ret;exact ⟨aD (by simp),rfl⟩
theorem zn (x level:Int) (w:World) (h0:0<=x) (h1:x<=18446744073709551615):
 Calls Tryz.prog 241 #[VU x,VI level] w fun e w'=>e=.returned (.bool (bH x level == 1))∧w'=w:=by
 go_enter Tryz.func241,Tryz.ntmps241;go_wp2_with (go_at_call 211;refine (pN x level _ h0 h1).mono ?_;rintro e w' ⟨rfl,rfl⟩);go_ret;exact ⟨aD (by simp),rfl⟩
theorem vy (k:Int) (w:World):
 Calls Tryz.prog 46 #[VI k] w fun e w'=>e=.returned (.bool (decide (0<=k∧k<=255)))∧w'=w:=by
 by_cases h:0<=k
 ·go_enter Tryz.func46,Tryz.ntmps46;go_wp2;go_ret;exact ⟨aD (by simp [h]),rfl⟩
 ·go_enter Tryz.func46,Tryz.ntmps46;go_wp2;go_ret;exact ⟨aD (by simp;omega),rfl⟩
section
variable {P:Program} {ops:Array Oper} {Q:Exit->Act->World->Prop} {F:World->Prop} {c:Nat}
def bK (P:Program) (ops:Array Oper) (Q:Exit->Act->World->Prop) (F:World->Prop) (c:Nat):Nat->Array Bool->Act->World->Prop
 | 0,listed,a,w=>Region.ready .any ops listed=[]∧Q .normal a w
 | fuel+1,listed,a,w=>
  (Region.ready .any ops listed=[]->Q .normal a w)∧
  ∀i∈Region.ready .any ops listed,wpOp P ops Q i (fun a' w'=>((listed.setIfInBounds i true).getD c false=false->F w')∧bK P ops Q F c fuel (listed.setIfInBounds i true) a' w') a w
theorem sY:∀(fuel:Nat) (listed:Array Bool) (a:Act) (w:World),bK P ops Q F c fuel listed a w->wpAny P .any ops Q fuel listed a w
 | 0,_,_,_,h=>h
 | fuel+1,_,_,_,h=>⟨h.1,fun i hi=>wpOp_mono (fun a' w' h'=>sY fuel _ a' w' h'.2) (h.2 i hi)⟩
theorem kW {i:Nat} {oi:Oper} {v:Value} (hi:ops[i]?=some oi) (hic:i≠c) (hsel:∀(j:Nat) (o:Oper) cs b,ops[j]?=some o->o.op≠.select cs b)
 (hQ:∀x a w,Q (.panic x) (a.put oi.dst v) w->Q (.panic x) a w):
 ∀(fuel:Nat) (listed:Array Bool) (a:Act) (w:World),Closed ops listed->
  (∀j oj,ops[j]?=some oj->j≠i->listed.getD j true=false->(∀e∈oj.after,Region.binds .any e=true->e.on≠i)->oi.apart ops oj=true)->
  i∈Region.ready .any ops listed->YieldsIf P ops (fun w=>∃l,Closed ops l∧l.getD i true=false∧(l.getD c false=false->F w)) oi v a->(listed.getD c false=false->F w)->
  bK P ops Q F c fuel (listed.setIfInBounds i true) (a.put oi.dst v) w->bK P ops Q F c (fuel+1) listed a w:=by
 intro fuel
 induction fuel with
 | zero=>
  intro listed a w hc _ hr hy hS H;refine ⟨fun h=>(by rw [h] at hr;cases hr),fun j hj=>?_⟩;by_cases hji:j=i
  ·subst hji;exact hy.wpOp hi ⟨listed,hc,(mem_ready.1 hr).1,hS⟩ ⟨fun h=>hS (by rwa [getD_set_ne false hic] at h),H⟩
  ·have:=ready_mono hj hji;rw [H.1] at this;cases this
 | succ fuel ih=>
  intro listed a w hc hfree hr hy hS H;refine ⟨fun h=>(by rw [h] at hr;cases hr),fun j hj=>?_⟩;by_cases hji:j=i
  ·subst hji;exact hy.wpOp hi ⟨listed,hc,(mem_ready.1 hr).1,hS⟩ ⟨fun h=>hS (by rwa [getD_set_ne false hic] at h),H⟩
  ·have h1:=H.2 j (ready_mono hj hji);obtain ⟨hjun,oj,hoj,hall⟩:=mem_ready.1 hj;have hnot:∀e∈oj.after,Region.binds .any e=true->e.on≠i:=fun e he hb heq=>by
    have h1:=hall e he hb;have h0:=(mem_ready.1 hr).1;rw [heq] at h1;rcases Nat.lt_or_ge i listed.size with h' | h'
    ·simp [h'] at h0 h1;rw [h0] at h1;cases h1
    ·simp [Array.getElem?_eq_none h'] at h1
   have h2:=wpOp_putIf hoj (hfree j oj hoj hji hjun hnot) (fun cs b=>hsel i oi cs b hi) (fun cs b=>hsel j oj cs b hoj) hQ hy h1;have hfree':∀k ok,ops[k]?=some ok->k≠i->(listed.setIfInBounds j true).getD k true=false->
    (∀e∈ok.after,Region.binds .any e=true->e.on≠i)->oi.apart ops ok=true:=fun k ok hk hki hun hno=>by
    refine hfree k ok hk hki ?_ hno;by_cases hjk:j=k
    ·subst hjk;exact hjun
    ·rw [getD_set_ne true hjk] at hun;exact hun
   have hcm:(listed.setIfInBounds i true).setIfInBounds j true=(listed.setIfInBounds j true).setIfInBounds i true:=Array.setIfInBounds_comm _ _ (Ne.symm hji);refine wpOp_mono (fun a' w' h3=>?_) h2;have hF:(listed.setIfInBounds j true).getD c false=false->F w':=fun h=>h3.2.1 (by rw [hcm,getD_set_ne false hic];exact h);refine ⟨hF,ih (listed.setIfInBounds j true) a' w' (hc.set hj) hfree' (ready_mono hr (Ne.symm hji)) h3.1 hF ?_⟩;rw [<-hcm];exact h3.2.2
def kX (ops:Array Oper) (listed:Array Bool):Bool:=
 (List.range ops.size).all fun j=>!listed.getD j false || match ops[j]? with
  | none=>true
  | some o=>o.after.all fun e=>!Region.binds .any e || listed.getD e.on false
theorem jk {listed:Array Bool} (h:kX ops listed=true):Closed ops listed:=by
 intro j oj hj hl e he hb;have h1:=List.all_eq_true.1 h j (List.mem_range.2 (hpl hj));simp only [hj,hl,Bool.not_true,Bool.false_or] at h1;have h2:=Array.all_eq_true_iff_forall_mem.1 h1 e he;simpa [hb] using h2
def mx (ops:Array Oper):Nat->Nat->Nat->Bool
 | 0,c,i=>c == i
 | f+1,c,i=>c == i || (List.range ops.size).any fun j=>Region.waitsFor .any ops c j && mx ops f j i
theorem jQ {listed:Array Bool} (hc:Closed ops listed) {i:Nat}:∀(f c:Nat),mx ops f c i=true->listed.getD c false=true->listed.getD i false=true
 | 0,c,h,hl=>by
  have:c=i:=by simpa [mx] using h
  subst this;exact hl
 | f+1,c,h,hl=>by
  simp only [mx,Bool.or_eq_true,beq_iff_eq,List.any_eq_true,Bool.and_eq_true] at h;rcases h with rfl | ⟨j,_,hw,hr⟩
  ·exact hl
  ·exact jQ hc f j hr (qg hc hl hw)
theorem jt (i:Nat) {oi:Oper} (d:Tmp) (v:Value) {fuel:Nat} {listed:Array Bool} {a:Act} {w:World} (hi:ops[i]?=some oi) (hs:Region.noSelect ops=true) (hcl:kX ops listed=true) (hf:Region.free .any ops listed i=true) (hr:(Region.ready .any ops listed).contains i=true) (hic:(i != c)=true) (hrc:mx ops ops.size c i=true)
 (hQ:∀x a w,Q (.panic x) (a.put oi.dst v) w->Q (.panic x) a w) (hw:Region.wanted oi (yielded ops a.tmps)=true) (hy:∀u,F u->(execOp a.eval oi).run P u=.ok (.value v) u) (hS:F w)
 (hd:oi.dst=some d) (h:bK P ops Q F c fuel (listed.setIfInBounds i true) (a.put (some d) v) w):bK P ops Q F c (fuel+1) listed a w:=
 kW hi (by simpa using hic) (Region.noSelect_spec hs) hQ fuel listed a w (jk hcl) (Region.free_spec hi hf) (by simpa using hr)
  (.inl ⟨hw,fun u ⟨l,h1,h2,h3⟩=>hy u (h3 (by
   cases hh:l.getD c false
   ·rfl
   ·have:=jQ h1 _ _ hrc hh;rw [nv h2] at this;cases this))⟩) (fun _=>hS) (by rw [hd];exact h)
theorem hqp {Q:Exit->Act->World->Prop} (H:Hid (∀x (a:Act) d z w,Q (.panic x) (a.put d z) w->Q (.panic x) a w)) {d:Option Tmp} {v:Value} (x:List PanicEntry) (a:Act) (w:World) (h:Q (.panic x) (a.put d v) w):Q (.panic x) a w:=H.out _ _ _ _ _ h
theorem Ey (i:Nat) {oi:Oper} (d:Tmp) (v:Value) {fuel:Nat} {listed:Array Bool} {a:Act} {w:World} (hi:ops[i]?=some oi)
 (hb:(Region.noSelect ops && kX ops listed && Region.free .any ops listed i && (Region.ready .any ops listed).contains i && (i != c) && mx ops ops.size c i && Region.wanted oi (yielded ops a.tmps) && (oi.dst == some d))=true)
 (hQ:∀x a w,Q (.panic x) (a.put oi.dst v) w->Q (.panic x) a w) (hy:∀u,F u->(execOp a.eval oi).run P u=.ok (.value v) u) (hS:F w)
 (h:bK P ops Q F c fuel (listed.setIfInBounds i true) (a.put (some d) v) w):bK P ops Q F c (fuel+1) listed a w:=by
 simp only [Bool.and_eq_true] at hb;obtain ⟨⟨⟨⟨⟨⟨⟨h1,h2⟩,h3⟩,h4⟩,h5⟩,h6⟩,h7⟩,h8⟩:=hb;exact jt i d v hi h1 h2 h3 h4 h5 h6 hQ h7 hy hS (by simpa using h8) h
theorem ax (i:Nat) {oi:Oper} (d:Tmp) (v:Value) {fuel:Nat} {listed:Array Bool} {a:Act} {w:World} (hi:ops[i]?=some oi) (hS:F w)
 (h:bK P ops Q F c fuel (listed.setIfInBounds i true) (a.put (some d) v) w)
 (hb:(Region.noSelect ops && kX ops listed && Region.free .any ops listed i && (Region.ready .any ops listed).contains i && (i != c) && mx ops ops.size c i && Region.wanted oi (yielded ops a.tmps) && (oi.dst == some d))=true:=by kernel_rfl)
 (hQ:∀x a w,Q (.panic x) (a.put oi.dst v) w->Q (.panic x) a w:=by exact fun _ _ _ h=>h) (hy:∀u,F u->(execOp a.eval oi).run P u=.ok (.value v) u:=by intro u _;kernel_rfl):bK P ops Q F c (fuel+1) listed a w:=
 Ey i d v hi hb hQ hy hS h
theorem BC (i:Nat) {oi:Oper} (d:Tmp) (v:Value) {fuel:Nat} {listed:Array Bool} {a:Act} {w:World} (hi:ops[i]?=some oi) (hs:Region.noSelect ops=true) (hcl:kX ops listed=true) (hf:Region.free .any ops listed i=true) (hr:(Region.ready .any ops listed).contains i=true) (hic:(i != c)=true)
 (hQ:∀x a w,Q (.panic x) (a.put oi.dst v) w->Q (.panic x) a w) (hw:Region.wanted oi (yielded ops a.tmps)=true) (hy:∀u,(execOp a.eval oi).run P u=.ok (.value v) u) (hS:listed.getD c false=true∨F w)
 (hd:oi.dst=some d) (h:bK P ops Q F c fuel (listed.setIfInBounds i true) (a.put (some d) v) w):bK P ops Q F c (fuel+1) listed a w:=
 kW hi (by simpa using hic) (Region.noSelect_spec hs) hQ fuel listed a w (jk hcl) (Region.free_spec hi hf) (by simpa using hr) (.inl ⟨hw,fun u _=>hy u⟩) (fun h0=>hS.resolve_left (by rw [h0];simp)) (by rw [hd];exact h)
theorem my {fuel:Nat} {listed:Array Bool} {a:Act} {w:World} (i:Nat) (hr:Region.ready .any ops listed=[i])
 (h:wpOp P ops Q i (fun a' w'=>((listed.setIfInBounds i true).getD c false=false->F w')∧bK P ops Q F c fuel (listed.setIfInBounds i true) a' w') a w):bK P ops Q F c (fuel+1) listed a w:=
 ⟨fun h0=>(by rw [hr] at h0;cases h0),fun j hj=>by
  rw [hr] at hj;have:j=i:=by simpa using hj
  subst this;exact h⟩
theorem zC {fuel:Nat} {listed:Array Bool} {a:Act} {w w':World} (i:Nat) {o:Oper} {T:TypeId} {x y:Operand} (hi:ops[i]?=some o) (hop:o.op=.store T x y) (hg:o.guard=none) (hd:o.dst=none) (hr:Region.ready .any ops listed=[i])
 {b off:Nat} {V:Value} (hx:a.eval x=PT b off) (hy:a.eval y=V) (hl:(Instr.storeAt T (PT b off) V).run P w=.ok () w') (hS:(listed.setIfInBounds i true).getD c false=true∨F w') (h:bK P ops Q F c fuel (listed.setIfInBounds i true) a w'):bK P ops Q F c (fuel+1) listed a w:=by
 refine my i hr ?_;unfold wpOp;simp only [hi];rw [if_pos (by simp [Region.wanted,hg])];refine .inl ?_;unfold Oper.wp execOp;simp only [hop,hx,hy,Sem.run_bind,hl,Result.andThen_ok,Sem.run_pure];refine ⟨fun h0=>hS.resolve_left (by rw [h0];simp),?_⟩;rw [hd];exact h
theorem dN {fuel:Nat} {listed:Array Bool} {a:Act} {w:World} (i:Nat) {o:Oper} (d:Tmp) (hi:ops[i]?=some o) {f:FuncId} {args:Array Value}
 (h:Calls P f args w fun e w'=>∃x,e=.returned x∧((listed.setIfInBounds i true).getD c false=false->F w')∧bK P ops Q F c fuel (listed.setIfInBounds i true) (a.put (some d) x) w')
 (hd:o.dst=some d:=by kernel_rfl) (hg:Region.wanted o (yielded ops a.tmps)=true:=by kernel_rfl) (hr:Region.ready .any ops listed=[i]:=by kernel_rfl) (he:(execOp a.eval o).run P w=.ok (.enter f args) w:=by kernel_rfl):bK P ops Q F c (fuel+1) listed a w:=by
 refine my i hr ?_;unfold wpOp;simp only [hi];rw [if_pos hg];refine .inl ?_;unfold Oper.wp;rw [he];refine h.mono ?_;rintro e w' ⟨x,rfl,hS,h2⟩;refine ⟨hS,?_⟩;rw [hd];exact h2
theorem qG {fuel:Nat} {listed:Array Bool} {a:Act} {w:World} (i:Nat) {o:Oper} (d:Tmp) (hd:o.dst=some d) (hi:ops[i]?=some o) (hg:o.guard=none) (hr:Region.ready .any ops listed=[i]) {f:FuncId} {args:Array Value} (he:(execOp a.eval o).run P w=.ok (.enter f args) w)
 (h:Calls P f args w fun e w'=>∃x,e=.returned x∧((listed.setIfInBounds i true).getD c false=false->F w')∧bK P ops Q F c fuel (listed.setIfInBounds i true) (a.put (some d) x) w'):bK P ops Q F c (fuel+1) listed a w:=
 dN i d hi h hd (by simp [Region.wanted,hg]) hr he
theorem BD {listed:Array Bool} {a:Act} {w:World} (hr:Region.ready .any ops listed=[]) (h:Q .normal a w):∀fuel,bK P ops Q F c fuel listed a w
 | 0=>⟨hr,h⟩
 | _+1=>⟨fun _=>h,by rw [hr];simp⟩
theorem dt {fuel:Nat} {listed:Array Bool} {a:Act} {w:World} (h:Q .normal a w) (hr:Region.ready .any ops listed=[]:=by kernel_rfl):bK P ops Q F c fuel listed a w:=BD hr h _
theorem dO {fuel:Nat} {listed:Array Bool} {a:Act} {w w':World} (i x y:Nat) {o:Oper} {T:TypeId} {b off:Nat} {V:Value} (hi:ops[i]?=some o) (hl:(Instr.storeAt T (PT b off) V).run P w=.ok () w') (h:bK P ops Q F c fuel (listed.setIfInBounds i true) a w')
 (hop:o.op=.store T (.tmp x) (.tmp y):=by kernel_rfl) (hg:o.guard=none:=by kernel_rfl) (hd:o.dst=none:=by kernel_rfl) (hr:Region.ready .any ops listed=[i]:=by kernel_rfl) (hx:a.eval (.tmp x)=PT b off:=by kernel_rfl) (hy:a.eval (.tmp y)=V:=by kernel_rfl)
 (hS:(listed.setIfInBounds i true).getD c false=true∨F w':=by exact .inl (by kernel_rfl)):bK P ops Q F c (fuel+1) listed a w:=zC i hi hop hg hd hr hx hy hl hS h
theorem aN {id:Nat} {a:Act} {w:World} (F:World->Prop) (c:Nat) (h:bK P ops Q F c ops.size (Array.replicate ops.size false) a w.drew) (hm:P.follows .mixedOrders=true:=by kernel_rfl):(Code.region id ops true).wp P Q a w:=
 wp_region_any hm (sY _ _ _ _ h)
end
theorem sZ {P:Program} {fn:Func} {R:Ending->World->Prop} {a:Act} {w:World} {s t:Tmp} {T:TypeId} {b:Nat} {V W:Value} (hr:fn.results=#[ResultVar.cell s T,ResultVar.tmp t]) (hs:a.tmps[s]?=some (PT b 0)) (ht:a.tmps[t]?=some W) (hl:(loadVar T (AD b 0)).run P w=.ok V w) (hd:a.defers=[]) (hR:R (.returned (.tuple #[V,W])) w):bodyPost P fn R .ret a w:=by
 refine bodyPost_ret (v:=.tuple #[V,W]) ?_ hd hR;simp [results,hr,hs,ht,asAddr,hl]
section
variable {P:Program} {ops:Array Oper} {Q:Exit->Act->World->Prop} {F:World->Prop} {c:Nat}
theorem xK {fuel:Nat} {listed:Array Bool} {a:Act} {w w':World} (i:Nat) {o:Oper} (d:Tmp) (v:Value) (hd:o.dst=some d) (hi:ops[i]?=some o) (hg:o.guard=none) (hr:Region.ready .any ops listed=[i]) (he:(execOp a.eval o).run P w=.ok (.value v) w')
 (hS:(listed.setIfInBounds i true).getD c false=false->F w') (h:bK P ops Q F c fuel (listed.setIfInBounds i true) (a.put (some d) v) w'):bK P ops Q F c (fuel+1) listed a w:=by
 refine my i hr ?_;unfold wpOp;simp only [hi];rw [if_pos (by simp [Region.wanted,hg])];refine .inl ?_;unfold Oper.wp;rw [he];refine ⟨hS,?_⟩;rw [hd];exact h
theorem ik {fuel:Nat} {listed:Array Bool} {a:Act} {w w':World} (i:Nat) {o:Oper} (d:Tmp) (v:Value) (hi:ops[i]?=some o) (hS:(listed.setIfInBounds i true).getD c false=false->F w') (h:bK P ops Q F c fuel (listed.setIfInBounds i true) (a.put (some d) v) w')
 (hd:o.dst=some d:=by kernel_rfl) (hg:o.guard=none:=by kernel_rfl) (hr:Region.ready .any ops listed=[i]:=by kernel_rfl) (he:(execOp a.eval o).run P w=.ok (.value v) w':=by kernel_rfl):bK P ops Q F c (fuel+1) listed a w:=xK i d v hd hi hg hr he hS h
end
theorem Ah {P:Program} {ops:Array Oper} {Q:Exit->Act->World->Prop} {K:Act->World->Prop} {a:Act} {w:World} (i:Nat) {o:Oper} (d:Tmp) (hd:o.dst=some d) (hi:ops[i]?=some o) (hg:o.guard=none) {f:FuncId} {args:Array Value} (he:(execOp a.eval o).run P w=.ok (.enter f args) w)
 (h:Calls P f args w fun e w'=>∃x,e=.returned x∧K (a.put (some d) x) w'):wpOp P ops Q i K a w:=by
 unfold wpOp;simp only [hi];rw [if_pos (by simp [Region.wanted,hg])];refine .inl ?_;unfold Oper.wp;rw [he];refine h.mono ?_;rintro e w' ⟨x,rfl,h2⟩;rw [hd];exact h2
theorem CQ {P:Program} {ops:Array Oper} {Q:Exit->Act->World->Prop} {K:Act->World->Prop} {a:Act} {w w':World} (i:Nat) {o:Oper} (d:Tmp) (v:Value) (hd:o.dst=some d) (hi:ops[i]?=some o) (hg:o.guard=none) (he:(execOp a.eval o).run P w=.ok (.value v) w')
 (h:K (a.put (some d) v) w'):wpOp P ops Q i K a w:=by
 unfold wpOp;simp only [hi];rw [if_pos (by simp [Region.wanted,hg])];refine .inl ?_;unfold Oper.wp;rw [he];show K (a.put o.dst v) w';rw [hd];exact h
theorem xL {P:Program} {ops:Array Oper} {Q:Exit->Act->World->Prop} {F:World->Prop} {c:Nat} {fuel:Nat} {listed:Array Bool} {a:Act} {w:World} (i j:Nat) (hr:Region.ready .any ops listed=[i,j])
 (hi:wpOp P ops Q i (fun a' w'=>((listed.setIfInBounds i true).getD c false=false->F w')∧bK P ops Q F c fuel (listed.setIfInBounds i true) a' w') a w)
 (hj:wpOp P ops Q j (fun a' w'=>((listed.setIfInBounds j true).getD c false=false->F w')∧bK P ops Q F c fuel (listed.setIfInBounds j true) a' w') a w):bK P ops Q F c (fuel+1) listed a w:=
 ⟨fun h0=>(by rw [hr] at h0;cases h0),fun k hk=>by
  rw [hr] at hk;simp only [List.mem_cons,List.not_mem_nil,or_false] at hk;rcases hk with rfl | rfl
  ·exact hi
  ·exact hj⟩
theorem sH {a:Act} {d e:Tmp} {u v:Value} (h:d≠e):(a.put (some d) u).put (some e) v=(a.put (some e) v).put (some d) u:=by
 show Act.mk _ _=Act.mk _ _;congr 1;exact Array.setIfInBounds_comm _ _ h
theorem Ai {P:Program} {ops:Array Oper} {Q:Exit->Act->World->Prop} {F:World->Prop} {c:Nat} {fuel:Nat} {listed L:Array Bool} {a:Act} {w:World} (k j:Nat) {ok oj:Oper} (dk dj:Tmp) {Z:Array Value} {T:TypeId} {g:FuncId} {brgs:Array Value} (R:World->Value->World->Prop)
 (ek:ops[k]?=some ok) (ej:ops[j]?=some oj) (dd:ok.dst=some dk∧oj.dst=some dj∧dk≠dj) (hg:ok.guard=none∧oj.guard=none)
 (r1:Region.ready .any ops listed=[k,j]) (r2:Region.ready .any ops (listed.setIfInBounds k true)=[j]) (r5:Region.ready .any ops (listed.setIfInBounds j true)=[k])
 (l1:(listed.setIfInBounds k true).setIfInBounds j true=L) (l2:(listed.setIfInBounds j true).setIfInBounds k true=L)
 (xk:∀u,(execOp a.eval ok).run P u=.ok (.enter g brgs) u) (xk':∀p u,(execOp (a.put (some dj) p).eval ok).run P u=.ok (.enter g brgs) u)
 (xj:∀b u,(execOp b oj).run P u=.ok (.value (PT u.heap.size 0)) (u.alloc (.cells Z T)))
 (hF:∀u,Bw w u->F u) (ck:∀u,Bw w u->Calls P g brgs u fun e w'=>(∃y,e=.returned y∧R u y w')∧Bw u w')
 (h:∀y p u v v',Bw w u->R u y v->Bw v v'->(p<u.heap.size∨v.heap.size<=p)->w.heap.size<=p->v'.heap[p]?=some (.cells Z T (0,0))->Bw w v'->bK P ops Q F c fuel L ((a.put (some dk) y).put (some dj) (PT p 0)) v'):bK P ops Q F c (fuel+2) listed a w:=by
 obtain ⟨hdk,hdj,n2⟩:=dd;obtain ⟨gk,gj⟩:=hg;have m1:=Below.refl w.heap.size w;refine xL k j r1 ?_ ?_
 ·refine Ah k dk hdk ek gk (xk w) ((ck w m1).mono ?_);rintro e u2 ⟨⟨y,rfl,hy⟩,m2⟩;refine ⟨y,rfl,fun _=>hF u2 m2,?_⟩;have A:=(cw u2 Z T).2.2;refine xK j dj _ hdj ej gj r2 (xj _ _) (fun _=>hF _ (bst m2 A)) ?_;rw [l1];exact h y _ w u2 _ m1 hy A (.inr nle) m2.size (cw u2 Z T).1 (bst m2 A)
 ·have A:=(cw w Z T).2.2;refine CQ j dj _ hdj ej gj (xj _ _) ⟨fun _=>hF _ A,?_⟩;refine qG k dk hdk ek gk r5 (xk' _ _) ((ck _ A).mono ?_);rintro e u2 ⟨⟨y,rfl,hy⟩,m2⟩;have z:=(cw w Z T).2.1;have m12:=bst A m2;refine ⟨y,rfl,fun _=>hF u2 m12,?_⟩;rw [l2,sH (Ne.symm n2)];exact h y _ _ u2 u2 A hy brf (.inl (by omega)) nle (ag (cw w Z T).1 m2 (by omega)) m12
theorem CR {P:Program} {ops:Array Oper} {Q:Exit->Act->World->Prop} {F:World->Prop} {c:Nat} {fuel:Nat} {listed L:Array Bool} {a:Act} {w:World} (i k j:Nat) {oi ok oj:Oper} (di dk dj:Tmp) (x:Value) {Z:Array Value} {T:TypeId} {f g:FuncId} {args brgs:Array Value} (R:World->Value->World->Prop)
 (ei:ops[i]?=some oi) (ek:ops[k]?=some ok) (ej:ops[j]?=some oj) (dd:oi.dst=some di∧ok.dst=some dk∧oj.dst=some dj∧di≠dj∧dk≠dj) (hg:oi.guard=none∧ok.guard=none∧oj.guard=none)
 (r0:Region.ready .any ops listed=[i,j]) (r1:Region.ready .any ops (listed.setIfInBounds i true)=[k,j]) (r2:Region.ready .any ops ((listed.setIfInBounds i true).setIfInBounds k true)=[j]) (r3:Region.ready .any ops (listed.setIfInBounds j true)=[i]) (r4:Region.ready .any ops ((listed.setIfInBounds j true).setIfInBounds i true)=[k]) (r5:Region.ready .any ops ((listed.setIfInBounds i true).setIfInBounds j true)=[k])
 (l1:((listed.setIfInBounds i true).setIfInBounds k true).setIfInBounds j true=L) (l2:((listed.setIfInBounds i true).setIfInBounds j true).setIfInBounds k true=L) (l3:((listed.setIfInBounds j true).setIfInBounds i true).setIfInBounds k true=L)
 (xi:∀u,(execOp a.eval oi).run P u=.ok (.enter f args) u) (xi':∀p u,(execOp (a.put (some dj) p).eval oi).run P u=.ok (.enter f args) u) (xk:∀u,(execOp (a.put (some di) x).eval ok).run P u=.ok (.enter g brgs) u) (xk':∀p u,(execOp ((a.put (some di) x).put (some dj) p).eval ok).run P u=.ok (.enter g brgs) u)
 (xj:∀b u,(execOp b oj).run P u=.ok (.value (PT u.heap.size 0)) (u.alloc (.cells Z T)))
 (hF:∀u,Bw w u->F u) (ci:∀u,Bw w u->Calls P f args u fun e w'=>e=.returned x∧Bw u w') (ck:∀u,Bw w u->Calls P g brgs u fun e w'=>(∃y,e=.returned y∧R u y w')∧Bw u w')
 (h:∀y p u v v',Bw w u->R u y v->Bw v v'->(p<u.heap.size∨v.heap.size<=p)->w.heap.size<=p->v'.heap[p]?=some (.cells Z T (0,0))->Bw w v'->bK P ops Q F c fuel L (((a.put (some di) x).put (some dk) y).put (some dj) (PT p 0)) v'):bK P ops Q F c (fuel+3) listed a w:=by
 obtain ⟨hdi,hdk,hdj,n1,n2⟩:=dd;obtain ⟨gi,gk,gj⟩:=hg;have AL:∀u,Bw w u->Bw w (u.alloc (.cells Z T))∧Bw u (u.alloc (.cells Z T)):=fun u hu=>⟨bst hu (cw u Z T).2.2,(cw u Z T).2.2⟩;have b0:=Below.refl w.heap.size w;refine xL i j r0 ?_ ?_
 ·refine Ah i di hdi ei gi (xi w) ((ci w b0).mono ?_);rintro e u1 ⟨rfl,m1⟩;refine ⟨x,rfl,fun _=>hF u1 m1,?_⟩;refine Ai k j dk dj R ek ej ⟨hdk,hdj,n2⟩ ⟨gk,gj⟩ r1 r2 r5 l1 l2 xk xk' xj (fun u hu=>hF u (bst m1 hu)) (fun u hu=>ck u (bst m1 hu)) ?_;intro y p u v v' hu hy hb hp hpb hz hn;exact h y p u v v' (bst m1 hu) hy hb hp (Nat.le_trans m1.size hpb) hz (bst m1 hn)
 ·have A:=AL w b0;refine CQ j dj _ hdj ej gj (xj _ _) ⟨fun _=>hF _ A.1,?_⟩;refine qG i di hdi ei gi r3 (xi' _ _) ((ci _ A.1).mono ?_);rintro e u1 ⟨rfl,m1⟩;have m01:=bst A.1 m1;refine ⟨x,rfl,fun _=>hF u1 m01,?_⟩;rw [sH (Ne.symm n1)];refine qG k dk hdk ek gk r4 (xk' _ _) ((ck _ m01).mono ?_);rintro e u2 ⟨⟨y,rfl,hy⟩,m2⟩;have z:=(cw w Z T).2.1;have zz:=m1.size;have m12:=bst m01 m2;refine ⟨y,rfl,fun _=>hF u2 m12,?_⟩;rw [l3,sH (Ne.symm n2)];exact h y _ _ u2 u2 m01 hy brf (.inl (by omega)) nle (ag (ag (cw w Z T).1 m1 (by omega)) m2 (by omega)) m12
end Go.Proofs.YtkenjknmfhoppaaGreat
