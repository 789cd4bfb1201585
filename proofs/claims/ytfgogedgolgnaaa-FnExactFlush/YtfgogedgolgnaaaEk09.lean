import Derived.Laws.CopyRow
import Derived.Test.YtfgogedgolgnaaaEk05
import Derived.BigRegion
namespace Go.Proofs.Ytfgogedgolgnaaa
open Go.RowKit
set_option linter.unusedVariables false
set_option maxHeartbeats 6400000
set_option maxRecDepth 20000
section
attribute [local go_sem ↓] Go.wp_at_zero Go.wp_at_succ
def mkE (k0:Int) (t:Nat):Value:=match t%6 with
 | 0=>.bool ((k0+t)%3 == 0)
 | 1=>.int .i64 (k0+t)
 | 4=>.bool ((k0+t)%3 == 0)
 | _=>.int .u64 (k0+t)
def dA (k0:Int) (m:Nat):List Value:=(List.range m).map (mkE k0)
theorem cN (k0:Int) (m t:Nat) (h:t<m):(dA k0 m)[t]?=some (mkE k0 t):=by
 simp [dA,h]
theorem fY (k0:Int) (j:Nat):mkE k0 (j*6)=(.bool ((k0+j*6)%3 == 0)):=by
 unfold mkE;rw [show (j*6)%6=0 by omega];simp only
 push_cast
 congr 1 <;> (first | (congr 2;omega) | omega)
theorem fZ (k0:Int) (j:Nat):mkE k0 (j*6+1)=(.int .i64 (k0+j*6+1)):=by
 unfold mkE;rw [show (j*6+1)%6=1 by omega];simp only
 push_cast
 congr 1 <;> (first | (congr 2;omega) | omega)
theorem ga (k0:Int) (j:Nat):mkE k0 (j*6+2)=(.int .u64 (k0+j*6+1+1)):=by
 unfold mkE;rw [show (j*6+2)%6=2 by omega];simp only
 push_cast
 congr 1 <;> (first | (congr 2;omega) | omega)
theorem gb (k0:Int) (j:Nat):mkE k0 (j*6+3)=(.int .u64 (k0+j*6+1+1+1)):=by
 unfold mkE;rw [show (j*6+3)%6=3 by omega];simp only
 push_cast
 congr 1 <;> (first | (congr 2;omega) | omega)
theorem gc (k0:Int) (j:Nat):mkE k0 (j*6+4)=(.bool ((k0+j*6+1+1+1+1)%3 == 0)):=by
 unfold mkE;rw [show (j*6+4)%6=4 by omega];simp only
 push_cast
 congr 1 <;> (first | (congr 2;omega) | omega)
theorem ge (k0:Int) (j:Nat):mkE k0 (j*6+5)=(.int .u64 (k0+j*6+1+1+1+1+1)):=by
 unfold mkE;rw [show (j*6+5)%6=5 by omega];simp only
 push_cast
 congr 1 <;> (first | (congr 2;omega) | omega)
theorem fw (k0:Int) (j m:Nat) (ys:List Value) (hy:ys.length=m) (hi:j*6+5<m) (h:∀t,t<j*6->ys[t]?=some (mkE k0 t)):
 ∀t,t<(j+1)*6->((((((ys.set (j*6) (.bool ((k0+j*6)%3 == 0))).set (j*6+1) (.int .i64 (k0+j*6+1))).set (j*6+2) (.int .u64 (k0+j*6+1+1))).set (j*6+3) (.int .u64 (k0+j*6+1+1+1))).set (j*6+4) (.bool ((k0+j*6+1+1+1+1)%3 == 0))).set (j*6+5) (.int .u64 (k0+j*6+1+1+1+1+1)))[t]?=some (mkE k0 t):=by
 intro t ht;by_cases h0:t<j*6
 ·rw [List.getElem?_set_ne (by omega),List.getElem?_set_ne (by omega),List.getElem?_set_ne (by omega),List.getElem?_set_ne (by omega),List.getElem?_set_ne (by omega),List.getElem?_set_ne (by omega)];exact h t h0
 ·rcases (show t=j*6∨t=j*6+1∨t=j*6+2∨t=j*6+3∨t=j*6+4∨t=j*6+5 by omega) with rfl | rfl | rfl | rfl | rfl | rfl
  ·rw [List.getElem?_set_ne (by omega),List.getElem?_set_ne (by omega),List.getElem?_set_ne (by omega),List.getElem?_set_ne (by omega),List.getElem?_set_ne (by omega),List.getElem?_set_self (by omega),fY]
  ·rw [List.getElem?_set_ne (by omega),List.getElem?_set_ne (by omega),List.getElem?_set_ne (by omega),List.getElem?_set_ne (by omega),List.getElem?_set_self (by simp;omega),fZ]
  ·rw [List.getElem?_set_ne (by omega),List.getElem?_set_ne (by omega),List.getElem?_set_ne (by omega),List.getElem?_set_self (by simp;omega),ga]
  ·rw [List.getElem?_set_ne (by omega),List.getElem?_set_ne (by omega),List.getElem?_set_self (by simp;omega),gb]
  ·rw [List.getElem?_set_ne (by omega),List.getElem?_set_self (by simp;omega),gc]
  ·rw [List.getElem?_set_self (by simp;omega),ge]
theorem dB (base g n cap:Nat) (cs:List Value) (k0:Int) (w:World) (h:w.ownsRow base 42 6 (.slice (some ⟨g,0,none⟩) n cap) n cs) (hl:n<=1048576) (hk0:0<=k0) (hk1:k0<=1073741824):
 Calls Try.prog 44 #[.slice (some ⟨g,0,none⟩) n cap,.int .i64 k0] w fun e w'=>
  e=.returned (.int .i64 (k0+n*6))∧w'.ownsRow base 42 6 (.slice (some ⟨g,0,none⟩) n cap) n (dA k0 (n*6))∧w.grownBy w' (some g):=by
 have HI:Hid _:=h;clear h;go_enter Try.func44,Try.ntmps44;go_wp2_with fail;go_loopw [1,5] (fun kk i wr=>∃(j:Nat) (ys:List Value),j<=n∧kk=.int .i64 (k0+j*6)∧i=.int .i64 j∧(∀t,t<j*6->ys[t]?=some (mkE k0 t))∧wr.ownsRow base 42 6 (.slice (some ⟨g,0,none⟩) n cap) n ys∧w.grownBy wr (some g)) (fun _ i _=>n-(intOf i).toNat)
 case atStart=>exact ⟨0,cs,Nat.zero_le _,by simp,rfl,fun t ht=>absurd ht (by omega),HI.out,bi _ _⟩
 case round=>
  clear HI;obtain ⟨j,ys,hj,rfl,rfl,hyz,hb,hn⟩:=hrel;have hy:=hb.1;by_cases hlt:j<n
  ·have y0:=ae hb (j*6) _ (List.getElem?_eq_getElem (by omega));have y1:=ae hb (j*6+1) _ (List.getElem?_eq_getElem (by omega));have y2:=ae hb (j*6+2) _ (List.getElem?_eq_getElem (by omega));have y3:=ae hb (j*6+3) _ (List.getElem?_eq_getElem (by omega));have y4:=ae hb (j*6+4) _ (List.getElem?_eq_getElem (by omega));have y5:=ae hb (j*6+5) _ (List.getElem?_eq_getElem (by omega));generalize ys[j*6]'_=z0 at y0;generalize ys[j*6+1]'_=z1 at y1;generalize ys[j*6+2]'_=z2 at y2;generalize ys[j*6+3]'_=z3 at y3;generalize ys[j*6+4]'_=z4 at y4;generalize ys[j*6+5]'_=z5 at y5;have r0:=ag hb (j*6);have r1:=ag hb (j*6+1);have r2:=ag hb (j*6+2);have r3:=ag hb (j*6+3);have r4:=ag hb (j*6+4);have r5:=ag hb (j*6+5);have HZ:Hid (∀t,t<j*6->ys[t]?=some (mkE k0 t)):=hyz;have HB:Hid (wr.ownsRow base 42 6 (.slice (some ⟨g,0,none⟩) n cap) n ys):=hb;clear hyz hb;go_wp2_with fail;go_roundw
   case rel=>exact ⟨j+1,_,by omega,by go_num,by go_num,fw k0 j (n*6) ys hy (by omega) HZ.out,(ac (ac (ac (ac (ac (ac HB.out _ _) _ _) _ _) _ _) _ _) _ _),(ap (ap (ap (ap (ap (ap hn _ _) _ _) _ _) _ _) _ _) _ _)⟩
   case measure=>simp [intOf];omega
  ·have hyy:ys=dA k0 (n*6):=by
    apply List.ext_getElem?;intro t;by_cases ht:t<n*6
    ·rw [cN k0 _ t ht];exact hyz t (by omega)
    ·rw [List.getElem?_eq_none (by omega),List.getElem?_eq_none (by simp [dA];omega)]
   subst hyy;have hjl:j=n:=by omega
   subst hjl;have HB:Hid _:=hb;clear hyz hb hy;go_wp2_with fail;go_ret;exact ⟨rfl,HB.out,hn⟩
theorem dC (base g n cap:Nat) (k0:Int) (w:World) (h:w.ownsRow base 42 6 (.slice (some ⟨g,0,none⟩) n cap) n (dA k0 (n*6))) (hl:n<=1048576) (hk0:0<=k0) (hk1:k0<=1073741824):
 Calls Try.prog 45 #[.slice (some ⟨g,0,none⟩) n cap,.int .i64 k0] w fun e w'=>
  e=.returned (.int .i64 (k0+n*6))∧Below w.heap.size w w':=by
 have hg:=(aw h).2.2;simp only at hg;go_enter Try.func45,Try.ntmps45;go_wp2_with fail;go_loopw [1,5] (fun kk i wr=>∃(j:Nat),j<=n∧kk=.int .i64 (k0+j*6)∧i=.int .i64 j∧Below w.heap.size w wr) (fun _ i _=>n-(intOf i).toNat)
 case atStart=>exact ⟨0,Nat.zero_le _,by simp,rfl,Below.refl _ _⟩
 case round=>
  obtain ⟨j,hj,rfl,rfl,hn⟩:=hrel;by_cases hlt:j<n
  ·have g0:=Below.cell2 hn (ae h (j*6) _ (cN k0 _ (j*6) (by omega))) hg;rw [fY] at g0;have g1:=Below.cell2 hn (ae h (j*6+1) _ (cN k0 _ (j*6+1) (by omega))) hg;rw [fZ] at g1;have g2:=Below.cell2 hn (ae h (j*6+2) _ (cN k0 _ (j*6+2) (by omega))) hg;rw [ga] at g2;have g3:=Below.cell2 hn (ae h (j*6+3) _ (cN k0 _ (j*6+3) (by omega))) hg;rw [gb] at g3;have g4:=Below.cell2 hn (ae h (j*6+4) _ (cN k0 _ (j*6+4) (by omega))) hg;rw [gc] at g4;have g5:=Below.cell2 hn (ae h (j*6+5) _ (cN k0 _ (j*6+5) (by omega))) hg;rw [ge] at g5;clear h;go_wp2_with fail;go_roundw
   case rel=>exact ⟨j+1,by omega,by go_num,by go_num,hn⟩
   case measure=>simp [intOf];omega
  ·have hjl:j=n:=by omega
   subst hjl;clear h;go_wp2_with fail;go_ret;exact ⟨rfl,hn⟩
theorem cf (sets ways:Int) (base g n cap:Nat) (cs:List Value) (k0:Int) (w:World) (h:w.ownsRow base 42 6 (.slice (some ⟨g,0,none⟩) n cap) n cs) (hl:n<=1048576) (hk0:0<=k0) (hk1:k0<=1073741824):
 Calls Try.prog 19 #[.agg #[.int .i64 sets,.int .i64 ways,.slice (some ⟨g,0,none⟩) n cap],.int .i64 k0] w fun e w'=>
  e=.returned (.int .i64 (k0+n*6))∧w'.ownsRow base 42 6 (.slice (some ⟨g,0,none⟩) n cap) n (dA k0 (n*6))∧w.grownBy w' (some g):=by
 have m1:=World.grownBy_alloc w (Obj.cells #[.int .i64 sets,.int .i64 ways,.slice (some ⟨g,0,none⟩) n cap] 29) (some g);have h1:Hid ((w.alloc (Obj.cells #[.int .i64 sets,.int .i64 ways,.slice (some ⟨g,0,none⟩) n cap] 29)).ownsRow base 42 6 (.slice (some ⟨g,0,none⟩) n cap) n cs):=ah h ((Below.refl w.heap.size w).alloc (Nat.le_refl _) _);clear h;go_enter Try.func19,Try.ntmps19;go_wp2_with fail;refine (dB base g n cap cs k0 _ h1.out hl hk0 hk1).mono ?_;rintro e v2 ⟨rfl,c2,m2⟩;have C2:Hid _:=c2;have m12:=bA m1 m2;clear m1 m2 h1 c2;go_wp2_with fail;go_ret;exact ⟨rfl,C2.out,m12⟩
theorem df (sets ways:Int) (base g n cap:Nat) (k0:Int) (w:World) (h:w.ownsRow base 42 6 (.slice (some ⟨g,0,none⟩) n cap) n (dA k0 (n*6))) (hl:n<=1048576) (hk0:0<=k0) (hk1:k0<=1073741824):
 Calls Try.prog 20 #[.agg #[.int .i64 sets,.int .i64 ways,.slice (some ⟨g,0,none⟩) n cap],.int .i64 k0] w fun e w'=>e=.returned (.int .i64 (k0+n*6))∧Below w.heap.size w w':=by
 have b1:=(Below.refl w.heap.size w).alloc (Nat.le_refl _) (Obj.cells #[.int .i64 sets,.int .i64 ways,.slice (some ⟨g,0,none⟩) n cap] 29);have h1:Hid ((w.alloc (Obj.cells #[.int .i64 sets,.int .i64 ways,.slice (some ⟨g,0,none⟩) n cap] 29)).ownsRow base 42 6 (.slice (some ⟨g,0,none⟩) n cap) n (dA k0 (n*6))):=ah h b1;have hk:decide (k0+n*6<0)=false:=by simp;omega
 clear h;go_enter Try.func20,Try.ntmps20;go_wp2_with fail;refine (dC base g n cap k0 _ h1.out hl hk0 hk1).mono ?_;rintro e v2 ⟨rfl,n2⟩;have b2:=Below.step b1 n2 (Nat.le_refl _);clear b1 n2 h1;go_wp2_with fail;go_ret;exact ⟨rfl,b2⟩
end
theorem fj (z:EntM) (n:Nat):(madeCells (bx z).toArray (n*6)).toList=ad (List.replicate n z):=by
 apply List.ext_getElem?;intro j;by_cases hj:j<n*6
 ·have hq:j/6<(List.replicate n z).length:=by simp;omega
  have:=cw (List.replicate n z) (j/6) (j%6) hq (by omega);rw [show j/6*6+j%6=j by omega] at this;rw [this];have h6:j%6<(bx z).length:=by simp [bx];omega
  simp only [madeCells,List.getElem_replicate];rw [List.getElem?_eq_getElem h6];simp [hj,bx];rw [List.getElem?_eq_getElem (by simpa [bx] using h6)];rfl
 ·rw [List.getElem?_eq_none (by simp [madeCells];omega),List.getElem?_eq_none (by rw [aQ];simp;omega)]
theorem fp (n:Nat) (hn:n<=1048576):∃cs:Array Value,cs.toList=ad (List.replicate n aC)∧∀u:World,(Instr.makeSlice 27 (.int .i64 (n:Int)) (.int .i64 (n:Int))).run Try.prog u=.ok (.slice (some ⟨u.heap.size,0,none⟩) n n) (u.alloc (.cells cs 42)):=by
 obtain ⟨i0,hi,hz0,hz1,hz2⟩:=info_parts Try.infoEnt;refine ⟨madeCells (Value.agg #[.bool false,.int .i64 0,.int .u64 0,.int .u64 0,.bool false,.int .u64 0]).cells (n*6),?_,fun u=>?_⟩
 ·exact fj aC n
 ·have:=run_make (P:=Try.prog) u 27 42 i0 _ Try.underlying27 hi hz0 .i64 .i64 n n (by omega) (Int.le_refl _) (by rw [hz2];omega) (by omega);rw [hz1] at this;simpa using this
theorem ec {P:Program} (w:World) (dT sT ty elem:TypeId) (g n dCap:Nat) (a:Addr) (sCap:Nat) (cur:Array Value) (t:TypeId) (cs:List Value)
 (hu:P.underlying dT=some (.slice elem)) (hs:(P.info? elem).map (·.size)=some 6) (hg:w.heap[g]?=some (.cells cur t (0,0))) (hn:cs.length=n*6)
 (hsrc:∀j v,cs[j]?=some v->w.cell? (a.add j)=some v) (hfit:cs.length=cur.size) (h1:∀v∈cs,v.oneCell'=true):
 (Builtin.copy_ #[dT,sT] ty #[.slice (some ⟨g,0,none⟩) n dCap,.slice (some a) n sCap]).run P w=.ok (goInt n) (w.setRow g cs.toArray):=by
 have hl:=run_loadCells_list (P:=P) w a cs hsrc;have hst:=run_storeCells_at P g 0 t cs 0 cur w hg (by simp;omega) h1;cases hq:P.info? elem with
 | none=>simp [hq] at hs
 | some i=>
  have hi:i.size=6:=by simpa [hq] using hs
  simp [Builtin.copy_,run_underlying hu,Builtin.lenOf,Builtin.firstCells,sizeOf,typeInfo,hq,hi,<-hn,hl,hst];rw [List.drop_of_length_le (by simp;omega),List.append_nil]
theorem dj {P:Program} {w:World} {ops:Array Oper} {rest:List Oper} {o:Oper} {a:Act} {Q:Exit->Act->World->Prop} (hgd:o.guard=none) (d s:Operand) (dT sT:TypeId)
 (ho:o.op=.call { callee:=.builtin .copy,args:=#[d,s],argTypes:=#[dT,sT] }) (elem:TypeId) (hu:P.underlying dT=some (.slice elem)) (hsz:(P.info? elem).map (·.size)=some 6)
 (g n dCap:Nat) (sp:Option Addr) (sCap:Nat) (hd:a.eval d=.slice (some ⟨g,0,none⟩) n dCap) (hs:a.eval s=.slice sp n sCap) (hnil:sp=none->n=0∧sCap=0) (hspot:∀q,sp=some q->q.spot=none)
 (cur:Array Value) (t:TypeId) (hg:w.heap[g]?=some (.cells cur t (0,0))) (cs:List Value) (hr:RowC w sp n 6 cs) (hfit:cur.size=n*6) (h1:∀v∈cs,v.oneCell'=true)
 (h:∀w',w'.heap[g]?=some (.cells cs.toArray t (0,0))->Below g w w'->wpList P ops Q rest (a.put o.dst (goInt n)) w'):wpList P ops Q (o::rest) a w:=by
 refine wpList_plain hgd fun K hK=>?_;cases sp with
 | none=>
  obtain ⟨rfl,rfl⟩:=hnil rfl;have hcs:cs=[]:=by have:=hr.1;simpa using this
  subst hcs;have hcur:cur=#[]:=by simpa using hfit
  subst hcur;have hrun:=run_copy_nil (P:=P) w dT sT o.type elem ⟨g,0,none⟩ 0 dCap hu (by
   cases hq:P.info? elem with
   | none=>simp [hq] at hsz
   | some i=>rfl)
  unfold Oper.wp;simp [execOp,ho,resolve,invoke,builtin,hd,hs,hrun,Result.andThen];exact hK _ _ (h w hg (Below.refl _ _))
 | some q=>
  obtain ⟨b,off,spot⟩:=q;have:=hspot _ rfl;simp only at this;subst this;have hrun:=ec (P:=P) w dT sT o.type elem g n dCap ⟨b,off,none⟩ sCap cur t cs hu hsz hg hr.1 (eY hr) (by rw [hr.1,hfit]) h1;unfold Oper.wp;simp [execOp,ho,resolve,invoke,builtin,hd,hs,hrun,Result.andThen];exact hK _ _ (h _ (setRow_heap w g _ _ t _ hg) (below_setRow (Below.refl _ _) (Nat.le_refl _) _))
theorem Try.sizeEnt:(Try.prog.info? 42).map (·.size)=some 6:=by kernel_rfl
theorem cJ (v:Value) (t:TlbM) (w:World) (h:TlbAt w v t):
 Calls Try.prog 41 #[v] w fun e w'=>(∃x,e=.returned x∧TlbOwn w.heap.size w' x t)∧Below w.heap.size w w':=by
 obtain ⟨a,cap,rfl,hr,_,_,_,hl,hlc,hcm,hnil,hsp⟩:=h;obtain ⟨sets,ways,es⟩:=t;obtain ⟨n,hn⟩:∃n,es.length=n:=⟨_,rfl⟩;simp only at hr hl hlc hnil |-;rw [hn] at hr hl hlc hnil |-;have n1:=((Below.refl w.heap.size w).alloc (Nat.le_refl _) (Obj.cells #[.int .i64 sets,.int .i64 ways,.slice a n cap] 29)).alloc (by simp) (Obj.cells #[.int .i64 0,.int .i64 0,.slice none 0 0] 29);have HR1:Hid (RowC ((w.alloc (Obj.cells #[.int .i64 sets,.int .i64 ways,.slice a n cap] 29)).alloc (Obj.cells #[.int .i64 0,.int .i64 0,.slice none 0 0] 29)) a n 6 (ad es)):=hr.keep n1;have H1:Hid (((w.alloc (Obj.cells #[.int .i64 sets,.int .i64 ways,.slice a n cap] 29)).alloc (Obj.cells #[.int .i64 0,.int .i64 0,.slice none 0 0] 29)).heap[w.heap.size]?=some (.cells #[.int .i64 sets,.int .i64 ways,.slice a n cap] 29 (0,0))):=by
  show _=_;rw [heap_alloc_old _ _ (by simp)];exact heap_alloc_new w _
 have H2:Hid (((w.alloc (Obj.cells #[.int .i64 sets,.int .i64 ways,.slice a n cap] 29)).alloc (Obj.cells #[.int .i64 0,.int .i64 0,.slice none 0 0] 29)).heap[w.heap.size+1]?=some (.cells #[.int .i64 0,.int .i64 0,.slice none 0 0] 29 (0,0))):=by
  have:=heap_alloc_new (w.alloc (Obj.cells #[.int .i64 sets,.int .i64 ways,.slice a n cap] 29)) (Obj.cells #[.int .i64 0,.int .i64 0,.slice none 0 0] 29);simp only [World.size_alloc] at this;exact this
 have l1:w.heap.size+1<((w.alloc (Obj.cells #[.int .i64 sets,.int .i64 ways,.slice a n cap] 29)).alloc (Obj.cells #[.int .i64 0,.int .i64 0,.slice none 0 0] 29)).heap.size:=by simp
 have HNi:Hid (a=none->n=0∧cap=0):=hnil;have HSp:Hid (∀q,a=some q->q.spot=none):=hsp;obtain ⟨cs,hcs,hmk⟩:=fp n hl;have hcsz:cs.size=n*6:=by
  have:cs.toList.length=n*6:=by rw [hcs,aQ];simp
  simpa using this
 have nV:Below ((w.alloc (Obj.cells #[.int .i64 sets,.int .i64 ways,.slice a n cap] 29)).alloc (Obj.cells #[.int .i64 0,.int .i64 0,.slice none 0 0] 29)).heap.size ((w.alloc (Obj.cells #[.int .i64 sets,.int .i64 ways,.slice a n cap] 29)).alloc (Obj.cells #[.int .i64 0,.int .i64 0,.slice none 0 0] 29)) (((w.alloc (Obj.cells #[.int .i64 sets,.int .i64 ways,.slice a n cap] 29)).alloc (Obj.cells #[.int .i64 0,.int .i64 0,.slice none 0 0] 29)).alloc (.cells cs 42)):=(Below.refl _ _).alloc (Nat.le_refl _) _;have HG:Hid ((((w.alloc (Obj.cells #[.int .i64 sets,.int .i64 ways,.slice a n cap] 29)).alloc (Obj.cells #[.int .i64 0,.int .i64 0,.slice none 0 0] 29)).alloc (.cells cs 42)).heap[w.heap.size+1+1]?=some (.cells cs 42 (0,0))):=by
  have:=heap_alloc_new ((w.alloc (Obj.cells #[.int .i64 sets,.int .i64 ways,.slice a n cap] 29)).alloc (Obj.cells #[.int .i64 0,.int .i64 0,.slice none 0 0] 29)) (.cells cs 42);simp only [World.size_alloc] at this;exact this
 have HRv:Hid (RowC (((w.alloc (Obj.cells #[.int .i64 sets,.int .i64 ways,.slice a n cap] 29)).alloc (Obj.cells #[.int .i64 0,.int .i64 0,.slice none 0 0] 29)).alloc (.cells cs 42)) a n 6 (ad es)):=HR1.out.keep nV;have K1:=ab H1 nV;have K2:=ab H2 nV;have A1:=Below.step n1 nV (Nat.le_refl _);clear hr hnil hsp hcs;go_enter Try.func41,Try.ntmps41;go_wp2_with (refine dj rfl (.tmp 8) (.tmp 10) 27 27 rfl 42 Try.underlying27 Try.sizeEnt (w.heap.size+1+1) n _ a _ rfl rfl HNi.out HSp.out cs 42 HG.out (ad es) HRv.out hcsz (cT es) ?_;intro v3 h3 n3;have k1:=aa ((n3.block w.heap.size (by omega)).trans K1.out);have k2:=aa ((n3.block (w.heap.size+1) (by omega)).trans K2.out);obtain ⟨⟨q0,q1,q2⟩,_,_,_⟩:=k1;obtain ⟨⟨j0,j1,j2⟩,i0,i1,i2⟩:=k2;have HG3:Hid _:=h3;clear h3);have A3:Below w.heap.size w v3:=A1.trans (n3.mono (by omega));have hsz3:w.heap.size+1+1<v3.heap.size:=(Array.getElem?_eq_some_iff.1 HG3.out).1;have O3:v3.ownsRow (w.heap.size+1+1) 42 6 (.slice (some ⟨w.heap.size+1+1,0,none⟩) n n) n (ad es):=
  ⟨by rw [aQ,hn],.inr ⟨_,n,(ad es).toArray,rfl,Nat.le_refl _,HG3.out,Nat.le_refl _,by unfold maxLen;omega,by simp [aQ,hn],by rw [List.take_of_length_le (by simp [aQ,hn])]⟩⟩
 refine bodyPost_ret (v:=.agg #[.int .i64 sets,.int .i64 ways,.slice (some ⟨w.heap.size+1+1,0,none⟩) n n]) (by simp [results,Try.results41,go_sem,j0,j1,j2]) rfl ⟨⟨_,rfl,_,n,by rw [hn],?_⟩,aS A3 (by omega) _ _ _⟩;rw [hn];exact aD (aR O3 (gb3 v3 (w.heap.size+1) _ _ _) (by omega)) (by omega)
section
attribute [local go_sem ↓] Go.wp_at_zero Go.wp_at_succ
theorem eU (lv tg asd pt:Int) (gl vv:Bool) (w:World):
 Calls Try.prog 96 #[.agg #[.int .i64 lv,.int .u64 tg,.int .u64 asd,.bool gl,.bool vv,.int .u64 pt]] w fun e w'=>e=.returned (.agg #[.bool vv,.int .i64 lv,.int .u64 tg,.int .u64 asd,.bool gl,.int .u64 pt])∧Below w.heap.size w w':=by
 have n1:=((Below.refl w.heap.size w).alloc (Nat.le_refl _) (Obj.cells #[.int .i64 lv,.int .u64 tg,.int .u64 asd,.bool gl,.bool vv,.int .u64 pt] 123)).alloc (by simp) (Obj.cells #[.bool vv,.int .i64 lv,.int .u64 tg,.int .u64 asd,.bool gl,.int .u64 pt] 42);go_enter Try.func96,Try.ntmps96;go_wp2_with fail;exact bodyPost_ret (v:=.agg #[.bool vv,.int .i64 lv,.int .u64 tg,.int .u64 asd,.bool gl,.int .u64 pt]) (by simp [results,Try.results96,go_sem]) rfl ⟨rfl,n1⟩
theorem eE (b o g n:Nat) (t:TlbM) (w:World) (hn:t.es.length=n) (hn1:n<=1048576) (hbl:b<w.heap.size) (hgl:g<w.heap.size)
 (c0:w.cell? ⟨b,o,none⟩=some (.int .i64 t.sets)) (c1:w.cell? ⟨b,o+1,none⟩=some (.int .i64 t.ways)) (c2:w.cell? ⟨b,o+2,none⟩=some (.slice (some ⟨g,0,none⟩) n n)) (hr:RowC w (some ⟨g,0,none⟩) n 6 (af t.es)):
 Calls Try.prog 76 #[.pointer (some ⟨b,o,none⟩)] w fun e w'=>(∃x,e=.returned x∧TlbOwn w.heap.size w' x t)∧Below w.heap.size w w':=by
 have HR:Hid (RowC w (some ⟨g,0,none⟩) n 6 (af t.es)):=hr;have HN:Hid (t.es.length=n):=hn;obtain ⟨sets,ways,es⟩:=t;simp only at c0 c1 c2 HR HN;clear hr hn;obtain ⟨cs,hcs,hmk⟩:=fp n hn1;have n1:=(Below.refl w.heap.size w).alloc (Nat.le_refl _) (Obj.cells #[.int .i64 0,.int .i64 0,.slice none 0 0] 29);have H1:Hid ((w.alloc (Obj.cells #[.int .i64 0,.int .i64 0,.slice none 0 0] 29)).heap[w.heap.size]?=some (.cells #[.int .i64 0,.int .i64 0,.slice none 0 0] 29 (0,0))):=heap_alloc_new w _;have l1:(w.alloc (Obj.cells #[.int .i64 0,.int .i64 0,.slice none 0 0] 29)).heap.size=w.heap.size+1:=by simp
 have nV:Below (w.alloc (Obj.cells #[.int .i64 0,.int .i64 0,.slice none 0 0] 29)).heap.size (w.alloc (Obj.cells #[.int .i64 0,.int .i64 0,.slice none 0 0] 29)) ((w.alloc (Obj.cells #[.int .i64 0,.int .i64 0,.slice none 0 0] 29)).alloc (.cells cs 42)):=(Below.refl _ _).alloc (Nat.le_refl _) _;have hG:((w.alloc (Obj.cells #[.int .i64 0,.int .i64 0,.slice none 0 0] 29)).alloc (.cells cs 42)).heap[w.heap.size+1]?=some (.cells cs 42 (0,0)):=by
  have:=heap_alloc_new (w.alloc (Obj.cells #[.int .i64 0,.int .i64 0,.slice none 0 0] 29)) (.cells cs 42);simp only [World.size_alloc] at this;exact this
 have hcl:cs.toList.length=n*6:=by rw [hcs,aQ];simp
 have O2:Hid (((w.alloc (Obj.cells #[.int .i64 0,.int .i64 0,.slice none 0 0] 29)).alloc (.cells cs 42)).ownsRow (w.heap.size+1) 42 6 (.slice (some ⟨w.heap.size+1,0,none⟩) n n) n (ad (au 0 n es))):=by
  rw [bO,<-hcs];exact ⟨hcl,.inr ⟨_,n,cs,rfl,Nat.le_refl _,hG,Nat.le_refl _,by unfold maxLen;omega,by rw [<-hcl];simp,List.take_of_length_le (by omega)⟩⟩
 have A2:=Below.step n1 nV (Nat.le_refl _);have K2:=ab H1 nV;have B2:Below (w.heap.size+1) ((w.alloc (Obj.cells #[.int .i64 0,.int .i64 0,.slice none 0 0] 29)).alloc (.cells cs 42)) ((w.alloc (Obj.cells #[.int .i64 0,.int .i64 0,.slice none 0 0] 29)).alloc (.cells cs 42)):=Below.refl _ _;have l2:((w.alloc (Obj.cells #[.int .i64 0,.int .i64 0,.slice none 0 0] 29)).alloc (.cells cs 42)).heap.size=w.heap.size+2:=by simp
 clear hG hcl hcs H1 n1 nV;have e0:w.heap.size≠b:=by omega
 have e1:w.heap.size+1≠b:=by omega
 go_enter Try.func76,Try.ntmps76;go_wp2_with fail;generalize ((w.alloc (Obj.cells #[.int .i64 0,.int .i64 0,.slice none 0 0] 29)).alloc (.cells cs 42))=v2 at O2 A2 K2 l2 B2 |-;go_loopw [17] (fun i wr=>∃k:Nat,k<=n∧i=.int .i64 k∧wr.ownsRow (w.heap.size+1) 42 6 (.slice (some ⟨w.heap.size+1,0,none⟩) n n) n (ad (au k n es))∧Below (w.heap.size+1) v2 wr) (fun i _=>n-(intOf i).toNat)
 case atStart=>exact ⟨0,Nat.zero_le _,rfl,O2.out,B2⟩
 case round=>
  obtain ⟨k,hk,rfl,hO,hb⟩:=hrel;have PO:Hid (wr.ownsRow (w.heap.size+1) 42 6 (.slice (some ⟨w.heap.size+1,0,none⟩) n n) n (ad (au k n es))):=hO;have lg:w.heap.size+1<wr.heap.size:=(aw hO).2.2;have A3:Below w.heap.size w wr:=A2.trans (hb.mono (by omega));have P1:Hid (wr.heap[w.heap.size]?=some (.cells #[.int .i64 0,.int .i64 0,.slice none 0 0] 29 (0,0))):=(hb.block w.heap.size (by omega)).trans K2.out;clear hO;have r0:wr.cell? ⟨b,o,none⟩=some (.int .i64 sets):=Below.cell2 A3 c0 hbl;have r1:wr.cell? ⟨b,o+1,none⟩=some (.int .i64 ways):=Below.cell2 A3 c1 hbl;have r2:wr.cell? ⟨b,o+2,none⟩=some (.slice (some ⟨g,0,none⟩) n n):=Below.cell2 A3 c2 hbl;by_cases hlt:k<n
  ·obtain ⟨⟨vv,lv,tg,asd,gl,pt⟩,hx⟩:∃x,es[k]?=some x:=⟨_,List.getElem?_eq_getElem (by rw [HN.out];exact hlt)⟩;have HXk:Hid (es[k]?=some ⟨vv,lv,tg,asd,gl,pt⟩):=hx;have CE:∀j u,j<6->(bc ⟨vv,lv,tg,asd,gl,pt⟩)[j]?=some u->wr.cell? ⟨g,k*6+j,none⟩=some u:=fun j u hj hu=>bq (HR.out.keep A3) HN.out k _ hx j u hj hu;have g0:wr.cell? ⟨g,k*6,none⟩=some (.int .i64 lv):=CE 0 _ (by omega) rfl;have g1:wr.cell? ⟨g,k*6+1,none⟩=some (.int .u64 tg):=CE 1 _ (by omega) rfl;have g2:wr.cell? ⟨g,k*6+2,none⟩=some (.int .u64 asd):=CE 2 _ (by omega) rfl;have g3:wr.cell? ⟨g,k*6+3,none⟩=some (.bool gl):=CE 3 _ (by omega) rfl;have g4:wr.cell? ⟨g,k*6+4,none⟩=some (.bool vv):=CE 4 _ (by omega) rfl;have g5:wr.cell? ⟨g,k*6+5,none⟩=some (.int .u64 pt):=CE 5 _ (by omega) rfl;clear CE hx;have n5:=(Below.refl wr.heap.size wr).alloc (Nat.le_refl _) (Obj.cells #[.int .i64 lv,.int .u64 tg,.int .u64 asd,.bool gl,.bool vv,.int .u64 pt] 123);go_wp2_with fail;generalize wr.alloc (Obj.cells #[.int .i64 lv,.int .u64 tg,.int .u64 asd,.bool gl,.bool vv,.int .u64 pt] 123)=v5 at n5 |-;refine (eU lv tg asd pt gl vv v5).mono ?_;rintro e v6 ⟨rfl,n6⟩;have n56:=Below.step n5 n6 (Nat.le_refl _);have SO:Hid (v6.ownsRow (w.heap.size+1) 42 6 (.slice (some ⟨w.heap.size+1,0,none⟩) n n) n (ad (au k n es))):=ah PO.out n56;have B6:Below (w.heap.size+1) v2 v6:=hb.trans (n56.mono (by omega));have hfl:(ad (au k n es)).length=n*6:=by
    have:=HN.out;subst this;rw [aQ,bg _ _ (by omega)]
   clear g0 g1 g2 g3 g4 g5 r0 r1 r2 n5 n6 n56 hb A3;have q0:=ae SO.out (k*6) _ (List.getElem?_eq_getElem (by omega));have q1:=ae SO.out (k*6+1) _ (List.getElem?_eq_getElem (by omega));have q2:=ae SO.out (k*6+2) _ (List.getElem?_eq_getElem (by omega));have q3:=ae SO.out (k*6+3) _ (List.getElem?_eq_getElem (by omega));have q4:=ae SO.out (k*6+4) _ (List.getElem?_eq_getElem (by omega));have q5:=ae SO.out (k*6+5) _ (List.getElem?_eq_getElem (by omega));generalize (ad (au k n es))[k*6]'_=y0 at q0;generalize (ad (au k n es))[k*6+1]'_=y1 at q1;generalize (ad (au k n es))[k*6+2]'_=y2 at q2;generalize (ad (au k n es))[k*6+3]'_=y3 at q3;generalize (ad (au k n es))[k*6+4]'_=y4 at q4;generalize (ad (au k n es))[k*6+5]'_=y5 at q5;have s0:=ag SO.out (k*6);have s1:=ag SO.out (k*6+1);have s2:=ag SO.out (k*6+2);have s3:=ag SO.out (k*6+3);have s4:=ag SO.out (k*6+4);have s5:=ag SO.out (k*6+5);go_wp2_with fail;go_roundw
   case rel=>
    refine ⟨k+1,by omega,by go_num,?_,?_⟩
    ·have:=HN.out;subst this;rw [bH k es _ HXk.out,bT _ _ _ (by rw [bg _ _ (by omega)];exact hlt)];exact ac (ac (ac (ac (ac (ac SO.out _ _) _ _) _ _) _ _) _ _) _ _
    ·have hg1:w.heap.size+1<=w.heap.size+1:=Nat.le_refl _;exact (((((B6.setCell (p:=⟨w.heap.size+1,_,none⟩) hg1 _).setCell (p:=⟨w.heap.size+1,_,none⟩) hg1 _).setCell (p:=⟨w.heap.size+1,_,none⟩) hg1 _).setCell (p:=⟨w.heap.size+1,_,none⟩) hg1 _).setCell (p:=⟨w.heap.size+1,_,none⟩) hg1 _).setCell (p:=⟨w.heap.size+1,_,none⟩) hg1 _
   case measure=>simp [intOf];omega
  ·have hkn:k=n:=by omega
   subst hkn;obtain ⟨⟨d0,d1,d2⟩,f0,f1,f2⟩:=aa P1.out;go_wp2_with fail;go_region;all_goals
    go_wp2_with fail;refine bodyPost_ret (v:=.agg #[.int .i64 sets,.int .i64 ways,.slice (some ⟨w.heap.size+1,0,none⟩) k k]) (by simp [results,Try.results76,go_sem,d0,d1,d2]) rfl ⟨⟨_,rfl,w.heap.size+1,k,by simp only;rw [HN.out],?_⟩,(aS A3 (Nat.le_refl _) _ _ _).drew⟩;simp only;rw [HN.out];have hO:=PO.out;have hq:=HN.out;subst hq;rw [cl] at hO;exact aD (bV (aR hO (gb3 wr w.heap.size _ _ _) (by omega))) (by omega)
end
section
attribute [local go_sem ↓] Go.wp_at_zero Go.wp_at_succ
theorem eI (lv tg asd pt:Int) (gl vv:Bool) (w:World):
 Calls Try.prog 97 #[.agg #[.int .i64 lv,.int .u64 tg,.int .u64 asd,.bool gl,.bool vv,.int .u64 pt]] w fun e w'=>e=.returned (.agg #[.bool vv,.int .i64 lv,.int .u64 tg,.int .u64 asd,.bool gl,.int .u64 pt])∧Below w.heap.size w w':=by
 have n1:=((Below.refl w.heap.size w).alloc (Nat.le_refl _) (Obj.cells #[.int .i64 lv,.int .u64 tg,.int .u64 asd,.bool gl,.bool vv,.int .u64 pt] 118)).alloc (by simp) (Obj.cells #[.bool vv,.int .i64 lv,.int .u64 tg,.int .u64 asd,.bool gl,.int .u64 pt] 42);go_enter Try.func97,Try.ntmps97;go_wp2_with fail;exact bodyPost_ret (v:=.agg #[.bool vv,.int .i64 lv,.int .u64 tg,.int .u64 asd,.bool gl,.int .u64 pt]) (by simp [results,Try.results97,go_sem]) rfl ⟨rfl,n1⟩
theorem ef (b o g n:Nat) (t:TlbM) (w:World) (hn:t.es.length=n) (hn1:n<=1048576) (hbl:b<w.heap.size) (hgl:g<w.heap.size)
 (c0:w.cell? ⟨b,o,none⟩=some (.int .i64 t.sets)) (c1:w.cell? ⟨b,o+1,none⟩=some (.int .i64 t.ways)) (c2:w.cell? ⟨b,o+2,none⟩=some (.slice (some ⟨g,0,none⟩) n n)) (hr:RowC w (some ⟨g,0,none⟩) n 6 (af t.es)):
 Calls Try.prog 78 #[.pointer (some ⟨b,o,none⟩)] w fun e w'=>(∃x,e=.returned x∧TlbOwn w.heap.size w' x t)∧Below w.heap.size w w':=by
 have HR:Hid (RowC w (some ⟨g,0,none⟩) n 6 (af t.es)):=hr;have HN:Hid (t.es.length=n):=hn;obtain ⟨sets,ways,es⟩:=t;simp only at c0 c1 c2 HR HN;clear hr hn;obtain ⟨cs,hcs,hmk⟩:=fp n hn1;have n1:=(Below.refl w.heap.size w).alloc (Nat.le_refl _) (Obj.cells #[.int .i64 0,.int .i64 0,.slice none 0 0] 29);have H1:Hid ((w.alloc (Obj.cells #[.int .i64 0,.int .i64 0,.slice none 0 0] 29)).heap[w.heap.size]?=some (.cells #[.int .i64 0,.int .i64 0,.slice none 0 0] 29 (0,0))):=heap_alloc_new w _;have l1:(w.alloc (Obj.cells #[.int .i64 0,.int .i64 0,.slice none 0 0] 29)).heap.size=w.heap.size+1:=by simp
 have nV:Below (w.alloc (Obj.cells #[.int .i64 0,.int .i64 0,.slice none 0 0] 29)).heap.size (w.alloc (Obj.cells #[.int .i64 0,.int .i64 0,.slice none 0 0] 29)) ((w.alloc (Obj.cells #[.int .i64 0,.int .i64 0,.slice none 0 0] 29)).alloc (.cells cs 42)):=(Below.refl _ _).alloc (Nat.le_refl _) _;have hG:((w.alloc (Obj.cells #[.int .i64 0,.int .i64 0,.slice none 0 0] 29)).alloc (.cells cs 42)).heap[w.heap.size+1]?=some (.cells cs 42 (0,0)):=by
  have:=heap_alloc_new (w.alloc (Obj.cells #[.int .i64 0,.int .i64 0,.slice none 0 0] 29)) (.cells cs 42);simp only [World.size_alloc] at this;exact this
 have hcl:cs.toList.length=n*6:=by rw [hcs,aQ];simp
 have O2:Hid (((w.alloc (Obj.cells #[.int .i64 0,.int .i64 0,.slice none 0 0] 29)).alloc (.cells cs 42)).ownsRow (w.heap.size+1) 42 6 (.slice (some ⟨w.heap.size+1,0,none⟩) n n) n (ad (au 0 n es))):=by
  rw [bO,<-hcs];exact ⟨hcl,.inr ⟨_,n,cs,rfl,Nat.le_refl _,hG,Nat.le_refl _,by unfold maxLen;omega,by rw [<-hcl];simp,List.take_of_length_le (by omega)⟩⟩
 have A2:=Below.step n1 nV (Nat.le_refl _);have K2:=ab H1 nV;have B2:Below (w.heap.size+1) ((w.alloc (Obj.cells #[.int .i64 0,.int .i64 0,.slice none 0 0] 29)).alloc (.cells cs 42)) ((w.alloc (Obj.cells #[.int .i64 0,.int .i64 0,.slice none 0 0] 29)).alloc (.cells cs 42)):=Below.refl _ _;have l2:((w.alloc (Obj.cells #[.int .i64 0,.int .i64 0,.slice none 0 0] 29)).alloc (.cells cs 42)).heap.size=w.heap.size+2:=by simp
 clear hG hcl hcs H1 n1 nV;have e0:w.heap.size≠b:=by omega
 have e1:w.heap.size+1≠b:=by omega
 go_enter Try.func78,Try.ntmps78;go_wp2_with fail;generalize ((w.alloc (Obj.cells #[.int .i64 0,.int .i64 0,.slice none 0 0] 29)).alloc (.cells cs 42))=v2 at O2 A2 K2 l2 B2 |-;go_loopw [17] (fun i wr=>∃k:Nat,k<=n∧i=.int .i64 k∧wr.ownsRow (w.heap.size+1) 42 6 (.slice (some ⟨w.heap.size+1,0,none⟩) n n) n (ad (au k n es))∧Below (w.heap.size+1) v2 wr) (fun i _=>n-(intOf i).toNat)
 case atStart=>exact ⟨0,Nat.zero_le _,rfl,O2.out,B2⟩
 case round=>
  obtain ⟨k,hk,rfl,hO,hb⟩:=hrel;have PO:Hid (wr.ownsRow (w.heap.size+1) 42 6 (.slice (some ⟨w.heap.size+1,0,none⟩) n n) n (ad (au k n es))):=hO;have lg:w.heap.size+1<wr.heap.size:=(aw hO).2.2;have A3:Below w.heap.size w wr:=A2.trans (hb.mono (by omega));have P1:Hid (wr.heap[w.heap.size]?=some (.cells #[.int .i64 0,.int .i64 0,.slice none 0 0] 29 (0,0))):=(hb.block w.heap.size (by omega)).trans K2.out;clear hO;have r0:wr.cell? ⟨b,o,none⟩=some (.int .i64 sets):=Below.cell2 A3 c0 hbl;have r1:wr.cell? ⟨b,o+1,none⟩=some (.int .i64 ways):=Below.cell2 A3 c1 hbl;have r2:wr.cell? ⟨b,o+2,none⟩=some (.slice (some ⟨g,0,none⟩) n n):=Below.cell2 A3 c2 hbl;by_cases hlt:k<n
  ·obtain ⟨⟨vv,lv,tg,asd,gl,pt⟩,hx⟩:∃x,es[k]?=some x:=⟨_,List.getElem?_eq_getElem (by rw [HN.out];exact hlt)⟩;have HXk:Hid (es[k]?=some ⟨vv,lv,tg,asd,gl,pt⟩):=hx;have CE:∀j u,j<6->(bc ⟨vv,lv,tg,asd,gl,pt⟩)[j]?=some u->wr.cell? ⟨g,k*6+j,none⟩=some u:=fun j u hj hu=>bq (HR.out.keep A3) HN.out k _ hx j u hj hu;have g0:wr.cell? ⟨g,k*6,none⟩=some (.int .i64 lv):=CE 0 _ (by omega) rfl;have g1:wr.cell? ⟨g,k*6+1,none⟩=some (.int .u64 tg):=CE 1 _ (by omega) rfl;have g2:wr.cell? ⟨g,k*6+2,none⟩=some (.int .u64 asd):=CE 2 _ (by omega) rfl;have g3:wr.cell? ⟨g,k*6+3,none⟩=some (.bool gl):=CE 3 _ (by omega) rfl;have g4:wr.cell? ⟨g,k*6+4,none⟩=some (.bool vv):=CE 4 _ (by omega) rfl;have g5:wr.cell? ⟨g,k*6+5,none⟩=some (.int .u64 pt):=CE 5 _ (by omega) rfl;clear CE hx;have n5:=(Below.refl wr.heap.size wr).alloc (Nat.le_refl _) (Obj.cells #[.int .i64 lv,.int .u64 tg,.int .u64 asd,.bool gl,.bool vv,.int .u64 pt] 118);go_wp2_with fail;generalize wr.alloc (Obj.cells #[.int .i64 lv,.int .u64 tg,.int .u64 asd,.bool gl,.bool vv,.int .u64 pt] 118)=v5 at n5 |-;refine (eI lv tg asd pt gl vv v5).mono ?_;rintro e v6 ⟨rfl,n6⟩;have n56:=Below.step n5 n6 (Nat.le_refl _);have SO:Hid (v6.ownsRow (w.heap.size+1) 42 6 (.slice (some ⟨w.heap.size+1,0,none⟩) n n) n (ad (au k n es))):=ah PO.out n56;have B6:Below (w.heap.size+1) v2 v6:=hb.trans (n56.mono (by omega));have hfl:(ad (au k n es)).length=n*6:=by
    have:=HN.out;subst this;rw [aQ,bg _ _ (by omega)]
   clear g0 g1 g2 g3 g4 g5 r0 r1 r2 n5 n6 n56 hb A3;have q0:=ae SO.out (k*6) _ (List.getElem?_eq_getElem (by omega));have q1:=ae SO.out (k*6+1) _ (List.getElem?_eq_getElem (by omega));have q2:=ae SO.out (k*6+2) _ (List.getElem?_eq_getElem (by omega));have q3:=ae SO.out (k*6+3) _ (List.getElem?_eq_getElem (by omega));have q4:=ae SO.out (k*6+4) _ (List.getElem?_eq_getElem (by omega));have q5:=ae SO.out (k*6+5) _ (List.getElem?_eq_getElem (by omega));generalize (ad (au k n es))[k*6]'_=y0 at q0;generalize (ad (au k n es))[k*6+1]'_=y1 at q1;generalize (ad (au k n es))[k*6+2]'_=y2 at q2;generalize (ad (au k n es))[k*6+3]'_=y3 at q3;generalize (ad (au k n es))[k*6+4]'_=y4 at q4;generalize (ad (au k n es))[k*6+5]'_=y5 at q5;have s0:=ag SO.out (k*6);have s1:=ag SO.out (k*6+1);have s2:=ag SO.out (k*6+2);have s3:=ag SO.out (k*6+3);have s4:=ag SO.out (k*6+4);have s5:=ag SO.out (k*6+5);go_wp2_with fail;go_roundw
   case rel=>
    refine ⟨k+1,by omega,by go_num,?_,?_⟩
    ·have:=HN.out;subst this;rw [bH k es _ HXk.out,bT _ _ _ (by rw [bg _ _ (by omega)];exact hlt)];exact ac (ac (ac (ac (ac (ac SO.out _ _) _ _) _ _) _ _) _ _) _ _
    ·have hg1:w.heap.size+1<=w.heap.size+1:=Nat.le_refl _;exact (((((B6.setCell (p:=⟨w.heap.size+1,_,none⟩) hg1 _).setCell (p:=⟨w.heap.size+1,_,none⟩) hg1 _).setCell (p:=⟨w.heap.size+1,_,none⟩) hg1 _).setCell (p:=⟨w.heap.size+1,_,none⟩) hg1 _).setCell (p:=⟨w.heap.size+1,_,none⟩) hg1 _).setCell (p:=⟨w.heap.size+1,_,none⟩) hg1 _
   case measure=>simp [intOf];omega
  ·have hkn:k=n:=by omega
   subst hkn;obtain ⟨⟨d0,d1,d2⟩,f0,f1,f2⟩:=aa P1.out;go_wp2_with fail;go_region;all_goals
    go_wp2_with fail;refine bodyPost_ret (v:=.agg #[.int .i64 sets,.int .i64 ways,.slice (some ⟨w.heap.size+1,0,none⟩) k k]) (by simp [results,Try.results78,go_sem,d0,d1,d2]) rfl ⟨⟨_,rfl,w.heap.size+1,k,by simp only;rw [HN.out],?_⟩,(aS A3 (Nat.le_refl _) _ _ _).drew⟩;simp only;rw [HN.out];have hO:=PO.out;have hq:=HN.out;subst hq;rw [cl] at hO;exact aD (bV (aR hO (gb3 wr w.heap.size _ _ _) (by omega))) (by omega)
end
theorem ar {v:World} {p:Nat} {cs:Array Value} {T:TypeId} (h:v.heap[p]?=some (.cells cs T (0,0))) (i:Nat) (x:Value) (hx:cs[i]?=some x):v.cell? ⟨p,i,none⟩=some x:=by
 simp [World.cell?,h,hx]
theorem bD {v:World} {p:Nat} {T:TypeId} {a b c x y z:Value} (h:v.heap[p]?=some (.cells #[a,b,c] T (0,0))):(((v.setCell ⟨p,0,none⟩ x).setCell ⟨p,1,none⟩ y).setCell ⟨p,2,none⟩ z).heap[p]?=some (.cells #[x,y,z] T (0,0)):=by
 simp [World.setCell,Array.getElem?_modify,h]
end Go.Proofs.Ytfgogedgolgnaaa
