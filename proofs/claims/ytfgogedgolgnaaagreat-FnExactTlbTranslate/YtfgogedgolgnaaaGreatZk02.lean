import Derived.Test.YtfgogedgolgnaaaGreatZk01
import Derived.Deep.RegionHeld3
import Derived.Deep.DrawnRows
import Derived.Deep.RegionLaw
namespace Go.Proofs.YtfgogedgolgnaaaGreat
open Go.RowKit
set_option linter.unusedVariables false
set_option maxHeartbeats 6400000
set_option maxRecDepth 20000
theorem dW (pte kind mode:Int) (sum mxr:Bool) (w:World) (h0:0<=pte) (h1:pte<=18446744073709551615):
 Calls Tryz.prog 50 #[.int .u64 pte,.int .i64 kind,.int .i64 mode,.bool sum,.bool mxr] w fun e w'=>e=.returned (.bool (aY pte kind mode sum mxr))∧∃n,w'=w.drewN n:=by
 go_enter Tryz.func50,Tryz.ntmps50;go_wp2_with fail;refine (aN pte 1 2 w h0 h1 (by omega) (by omega) rfl).mono ?_;rintro e w' ⟨rfl,n1,rfl⟩;go_wp2_with fail;refine (aN pte 2 4 _ h0 h1 (by omega) (by omega) rfl).mono ?_;rintro e w' ⟨rfl,n2,rfl⟩;go_wp2_with fail;refine (aN pte 3 8 _ h0 h1 (by omega) (by omega) rfl).mono ?_;rintro e w' ⟨rfl,n3,rfl⟩;go_wp2_with fail;refine (aN pte 4 16 _ h0 h1 (by omega) (by omega) rfl).mono ?_;rintro e w' ⟨rfl,n4,rfl⟩;go_wp2_with fail;refine (aN pte 6 64 _ h0 h1 (by omega) (by omega) rfl).mono ?_;rintro e w' ⟨rfl,n5,rfl⟩;go_wp2_with fail;refine (aN pte 7 128 _ h0 h1 (by omega) (by omega) rfl).mono ?_;rintro e w' ⟨rfl,n6,rfl⟩;by_cases k0:kind=0
 ·subst k0;by_cases m0:mode=0
  ·subst m0;go_wp2_with fail;all_goals (go_ret;exact ⟨ah (by simp_all [aY]),_,rfl⟩)
  by_cases m1:mode=1
  ·subst m1;go_wp2_with fail;all_goals (go_ret;exact ⟨ah (by simp_all [aY]),_,rfl⟩)
  ·have m0':(mode == 0)=false:=by simpa using m0
   have m1':(mode == 1)=false:=by simpa using m1
   go_wp2_with fail;all_goals (go_ret;exact ⟨ah (by simp_all [aY]),_,rfl⟩)
 by_cases k1:kind=1
 ·subst k1;by_cases m0:mode=0
  ·subst m0;go_wp2_with fail;all_goals (go_ret;exact ⟨ah (by simp_all [aY]),_,rfl⟩)
  by_cases m1:mode=1
  ·subst m1;go_wp2_with fail;all_goals (go_ret;exact ⟨ah (by simp_all [aY]),_,rfl⟩)
  ·have m0':(mode == 0)=false:=by simpa using m0
   have m1':(mode == 1)=false:=by simpa using m1
   go_wp2_with fail;all_goals (go_ret;exact ⟨ah (by simp_all [aY]),_,rfl⟩)
 by_cases k2:kind=2
 ·subst k2;by_cases m0:mode=0
  ·subst m0;go_wp2_with fail;all_goals (go_ret;exact ⟨ah (by simp_all [aY]),_,rfl⟩)
  by_cases m1:mode=1
  ·subst m1;go_wp2_with fail;all_goals (go_ret;exact ⟨ah (by simp_all [aY]),_,rfl⟩)
  ·have m0':(mode == 0)=false:=by simpa using m0
   have m1':(mode == 1)=false:=by simpa using m1
   go_wp2_with fail;all_goals (go_ret;exact ⟨ah (by simp_all [aY]),_,rfl⟩)
 have k0':(kind == 0)=false:=by simpa using k0
 have k1':(kind == 1)=false:=by simpa using k1
 have k2':(kind == 2)=false:=by simpa using k2
 by_cases m0:mode=0
 ·subst m0;go_wp2_with fail;all_goals (go_ret;exact ⟨ah (by simp_all [aY]),_,rfl⟩)
 by_cases m1:mode=1
 ·subst m1;go_wp2_with fail;all_goals (go_ret;exact ⟨ah (by simp_all [aY]),_,rfl⟩)
 ·have m0':(mode == 0)=false:=by simpa using m0
  have m1':(mode == 1)=false:=by simpa using m1
  go_wp2_with fail;all_goals (go_ret;exact ⟨ah (by simp_all [aY]),_,rfl⟩)
theorem gJ (pte level va:Int) (w:World) (h0:0<=pte) (h1:pte<=18446744073709551615) (hv:0<=va) (hv':va<=18446744073709551615) (hl: -9223372036854775808<=level) (hl':level<=9223372036854775807):
 Calls Tryz.prog 51 #[.int .u64 pte,.int .i64 level,.int .u64 va] w fun e w'=>e=.returned (.int .u64 (cz pte level va))∧∃n,w'=w.drewN n:=by
 by_cases hneg:level<0
 ·go_enter Tryz.func51,Tryz.ntmps51;go_wp2_with fail;go_ret;exact ⟨br (by simp [cz,hneg]),0,rfl⟩
 by_cases hgt:2<level
 ·go_enter Tryz.func51,Tryz.ntmps51;go_wp2_with fail;go_ret;exact ⟨br (by simp [cz,hgt]),0,rfl⟩
 have hpp:0<=bj pte∧bj pte<17592186044416:=⟨Int.emod_nonneg _ (by omega),Int.emod_lt_of_pos _ (by omega)⟩;rcases (show level=0∨level=1∨level=2 by omega) with rfl | rfl | rfl
 ·go_enter Tryz.func51,Tryz.ntmps51;go_wp2_with fail;refine (aS 6 64 _ (by omega) rfl).mono ?_;rintro e w' ⟨rfl,rfl⟩;go_wp2_with fail;go_quiet ((go_at_call 28;exact Calls.quiet_of (bc pte _ h0 h1)));go_wp2_with fail;go_ret;exact ⟨br (by simp [cz,cH]),nq,rfl⟩
 ·go_enter Tryz.func51,Tryz.ntmps51;go_wp2_with fail;refine (aS 9 512 _ (by omega) rfl).mono ?_;rintro e w' ⟨rfl,rfl⟩;go_wp2_with fail;go_quiet ((go_at_call 28;exact Calls.quiet_of (bc pte _ h0 h1)));go_wp2_with fail;go_ret;exact ⟨br (by simp [cz,cH]),nq,rfl⟩
 ·go_enter Tryz.func51,Tryz.ntmps51;go_wp2_with fail;refine (aS 12 4096 _ (by omega) rfl).mono ?_;rintro e w' ⟨rfl,rfl⟩;go_wp2_with fail;go_quiet ((go_at_call 28;exact Calls.quiet_of (bc pte _ h0 h1)));go_wp2_with fail;go_ret;exact ⟨br (by simp [cz,cH]),nq,rfl⟩
def RowC (w:World) (a:Option Addr) (n size:Nat) (cs:List Value):Prop:=
 cs.length=n*size∧(n=0∨∃b off,a=some ⟨b,off,none⟩∧b<w.heap.size∧∀i v,cs[i]?=some v->w.cell? ⟨b,off+i,none⟩=some v)
theorem RowC.keep {w w':World} {a:Option Addr} {n size:Nat} {cs:List Value} (h:RowC w a n size cs) (hb:Below w.heap.size w w'):RowC w' a n size cs:=by
 obtain ⟨h1,h3⟩:=h;refine ⟨h1,?_⟩;rcases h3 with h3 | ⟨b,off,rfl,hlt,hc⟩
 ·exact .inl h3
 ·exact .inr ⟨b,off,rfl,Nat.lt_of_lt_of_le hlt hb.size,fun i v hi=>(hb.cell (p:=⟨b,off+i,none⟩) hlt).trans (hc i v hi)⟩
theorem RowC.gb {w w':World} {b off n size r:Nat} {cs:List Value} (h:RowC w (some ⟨b,off,none⟩) n size cs) (hg:w.grownBy w' (some r)) (hne:b≠r):RowC w' (some ⟨b,off,none⟩) n size cs:=by
 obtain ⟨h1,h3⟩:=h;refine ⟨h1,?_⟩;rcases h3 with h3 | ⟨b',off',e,hlt,hc⟩
 ·exact .inl h3
 ·simp at e;obtain ⟨rfl,rfl⟩:=e;exact .inr ⟨b,off,rfl,Nat.lt_of_lt_of_le hlt hg.size,fun i v hi=>(World.cell?_of_block (hg.block b hlt (by simpa using hne))).trans (hc i v hi)⟩
theorem RowC.gb' {w w':World} {a:Option Addr} {n size r:Nat} {cs:List Value} (h:RowC w a n size cs) (hg:w.grownBy w' (some r)) (hne:∀q,a=some q->q.block≠r):RowC w' a n size cs:=by
 obtain ⟨h1,h3⟩:=h;refine ⟨h1,?_⟩;rcases h3 with h3 | ⟨b,off,rfl,hlt,hc⟩
 ·exact .inl h3
 ·have hne':b≠r:=hne ⟨b,off,none⟩ rfl;exact .inr ⟨b,off,rfl,Nat.lt_of_lt_of_le hlt hg.size,fun i v hi=>(World.cell?_of_block (hg.block b hlt (by simpa using hne'))).trans (hc i v hi)⟩
theorem aV {w w':World} {g r:Nat} {o:Obj} (h:w.heap[g]?=some o) (hg:w.grownBy w' (some r)) (hne:g≠r):w'.heap[g]?=some o:=by
 rw [hg.block g (Array.getElem?_eq_some_iff.1 h).1 (by simpa using hne),h]
theorem RowC.nil (w:World) (a:Option Addr) (size:Nat):RowC w a 0 size []:=⟨by simp,.inl rfl⟩
theorem Below.froz2 {w w':World} (h:Below w.heap.size w w') {b o:Nat} {x:Bool} (hc:w.frozen? ⟨b,o,none⟩=x) (hb:b<w.heap.size):w'.frozen? ⟨b,o,none⟩=x:=(h.frozen (p:=⟨b,o,none⟩) hb).trans hc
def OwnC (e:TypeId) (size:Nat) (w:World) (base g n cap:Nat) (cs:List Value):Prop:=
 w.ownsRow base e size (.slice (some ⟨g,0,none⟩) n cap) n cs
theorem OwnC.new (e:TypeId) (size:Nat) (w:World) (cs:List Value) (n:Nat) (hn:cs.length=n*size) (hm:n<=maxLen):OwnC e size (w.alloc (.cells cs.toArray e)) w.heap.size w.heap.size n n cs:=
 ⟨hn,.inr ⟨w.heap.size,n,_,rfl,Nat.le_refl _,heap_alloc_new w _,Nat.le_refl _,hm,by simp [hn],List.take_of_length_le (by simp [hn])⟩⟩
theorem OwnC.facts {e:TypeId} {size:Nat} {w:World} {base g n cap:Nat} {cs:List Value} (h:OwnC e size w base g n cap cs):
 cs.length=n*size∧base<=g∧g<w.heap.size∧n<=cap∧cap<=maxLen:=by
 obtain ⟨h1,h2⟩:=h;rcases h2 with ⟨h2,_⟩ | ⟨g',cap',cur,h2,hb,hh,hn,hm,hs,ht⟩
 ·simp at h2
 ·simp at h2;obtain ⟨rfl,rfl⟩:=h2;exact ⟨h1,hb,(Array.getElem?_eq_some_iff.1 hh).1,hn,hm⟩
theorem OwnC.row {e:TypeId} {size:Nat} {w:World} {base g n cap:Nat} {cs:List Value} (h:OwnC e size w base g n cap cs):RowC w (some ⟨g,0,none⟩) n size cs:=by
 refine ⟨h.1,.inr ⟨g,0,rfl,h.facts.2.2.1,fun i v hi=>?_⟩⟩;have hl:i<cs.length:=(List.getElem?_eq_some_iff.1 hi).1;rw [Nat.zero_add,World.ownsRow.cellAt h i (by rw [<-h.1];exact hl),hi]
theorem OwnC.keep {e:TypeId} {size B:Nat} {w w':World} {base g n cap:Nat} {cs:List Value} (h:OwnC e size w base g n cap cs) (hb:Below B w w') (hg:g<B):OwnC e size w' base g n cap cs:=by
 obtain ⟨h1,h2⟩:=h;refine ⟨h1,?_⟩;rcases h2 with ⟨h2,_⟩ | ⟨g',cap',cur,h2,hb',hh,r⟩
 ·simp at h2
 ·have hh':=h2;simp at hh';obtain ⟨rfl,rfl⟩:=hh';exact .inr ⟨_,_,cur,h2,hb',by rw [hb.block _ hg];exact hh,r⟩
theorem OwnC.gb {e:TypeId} {size:Nat} {w w':World} {base g n cap r:Nat} {cs:List Value} (h:OwnC e size w base g n cap cs) (hg:w.grownBy w' (some r)) (hne:g≠r):OwnC e size w' base g n cap cs:=by
 obtain ⟨h1,h2⟩:=h;refine ⟨h1,?_⟩;rcases h2 with ⟨h2,_⟩ | ⟨g',cap',cur,h2,hb',hh,r'⟩
 ·simp at h2
 ·have hh':=h2;simp at hh';obtain ⟨rfl,rfl⟩:=hh';exact .inr ⟨_,_,cur,h2,hb',by rw [hg.block _ (Array.getElem?_eq_some_iff.1 hh).1 (by simpa using hne)];exact hh,r'⟩
theorem OwnC.of_append {e:TypeId} {size:Nat} {w':World} {base g n cap m:Nat} {v':Value} {cs:List Value} (h:w'.ownsRow base e size v' (n+m) cs)
 (hv:v'=.slice none 0 0↔(Value.slice (some ⟨g,0,none⟩) n cap)=.slice none 0 0∧m=0):∃g' cap',v'=.slice (some ⟨g',0,none⟩) (n+m) cap'∧OwnC e size w' base g' (n+m) cap' cs:=by
 rcases h.2 with ⟨h2,_⟩ | ⟨g',cap',cur,h2,r⟩
 ·have:=hv.1 h2;simp at this
 ·refine ⟨g',cap',h2,?_⟩;subst h2;exact h
theorem OwnC.grown {e:TypeId} {size B:Nat} {a w w':World} {base g n cap:Nat} {cs:List Value} (h:Below B a w) (o:OwnC e size w base g n cap cs) (hg:w.grownBy w' (Value.slice (some ⟨g,0,none⟩) n cap).ownBlock) (hB:B<=base):Below B a w':=by
 have f:=o.facts;exact h.grown hg (by omega) (fun k hk=>by cases hk;show B<=g;omega)
theorem kg {w:World} {b off n size:Nat} {cs:List Value} (h:RowC w (some ⟨b,off,none⟩) n size cs):∀j u,cs[j]?=some u->w.cell? (Addr.add ⟨b,off,none⟩ j)=some u:=by
 intro j u hu;obtain ⟨h1,h3⟩:=h;rcases h3 with h3 | ⟨b',off',e,_,hc⟩
 ·subst h3;simp at h1;subst h1;simp at hu
 ·simp at e;obtain ⟨rfl,rfl⟩:=e;have e:Addr.add ⟨b,off,none⟩ j=⟨b,off+j,none⟩:=by
   unfold Addr.add;split
   ·next h=>subst h;rfl
   ·rfl
  rw [e];exact hc j u hu
theorem iX {P:Program} (w:World) {o:Oper} {a:Act} {K:Act->World->Prop} {Q:Exit->Act->World->Prop} (s x:Operand) (t:TypeId)
 (ho:o.op=.call { callee:=.builtin .append,args:=#[s,x],argTypes:=#[t,t] }) (e:TypeId) (ht:P.underlying t=some (.slice e)) (z:Value) (size bytes:Nat)
 (hi:(P.info? e).map (fun i=>(i.zero,i.size,i.bytes))=some (some z,size,bytes)) (hzs:z.cells.size=size) (hsz:0<size)
 (base g n cap:Nat) (cs:List Value) (hs:a.eval s=.slice (some ⟨g,0,none⟩) n cap) (hown:OwnC e size w base g n cap cs)
 (src:Option Addr) (m c:Nat) (ys:List Value) (hx:a.eval x=.slice src m c) (hnil:src=none->m=0∧c=0) (hspot:∀q,src=some q->q.spot=none) (hy:RowC w src m size ys) (h1:∀u∈ys,u.oneCell'=true)
 (hbd:(n+m)*bytes<=140737488355328) (hbd':n+m<=9223372036854775807)
 (B:Nat) (W:World) (hb:Below B W w) (hB:B<=base)
 (h:∀g' cap' w',OwnC e size w' base g' (n+m) cap' (cs++ys)->Below B W w'->K (a.put o.dst (.slice (some ⟨g',0,none⟩) (n+m) cap')) w'):o.wp P a w K Q:=by
 obtain ⟨i0,hi,hz0,hz1,hz2⟩:=info_parts hi;have f:=hown.facts;cases src with
 | none=>
  obtain ⟨rfl,rfl⟩:=hnil rfl;have hys:ys=[]:=by have:=hy.1;simpa using this
  subst hys;have hrun:=run_append_owned_none (P:=P) (w:=w) base t o.type e i0 size ht hi _ n cs hown;unfold Oper.wp;simp [execOp,ho,resolve,invoke,builtin,hs,hx,hrun,Result.andThen];have:=h g cap w (by simpa using hown) hb;simp only [Nat.add_zero] at this;exact this
 | some q=>
  obtain ⟨b,off,spot⟩:=q;have:=hspot ⟨b,off,spot⟩ rfl;simp at this;subst this;refine wp_append_own w s x t ho base e i0 z size bytes ht hi hz0 hz1 hz2 hzs hsz _ n _ hs hown ⟨b,off,none⟩ m c ys hx hy.1 (kg hy) h1 (by unfold maxLen;omega) hbd (by omega) ?_;intro v' w' h1 h2 h3;obtain ⟨g',cap',rfl,o4⟩:=OwnC.of_append h1 h3;exact h g' cap' w' o4 (OwnC.grown hb hown h2 hB)
theorem et {P:Program} (w:World) {ops:Array Oper} {o:Oper} {a:Act} {K:Act->World->Prop} {Q:Exit->Act->World->Prop} {E:Prop} (hgd:o.guard=none) (s x:Operand) (t:TypeId)
 (ho:o.op=.call { callee:=.builtin .append,args:=#[s,x],argTypes:=#[t,t] }) (e:TypeId) (ht:P.underlying t=some (.slice e)) (z:Value) (size bytes:Nat)
 (hi:(P.info? e).map (fun i=>(i.zero,i.size,i.bytes))=some (some z,size,bytes)) (hzs:z.cells.size=size) (hsz:0<size)
 (base g n cap:Nat) (cs:List Value) (hs:a.eval s=.slice (some ⟨g,0,none⟩) n cap) (hown:OwnC e size w base g n cap cs)
 (src:Option Addr) (m c:Nat) (ys:List Value) (hx:a.eval x=.slice src m c) (hnil:src=none->m=0∧c=0) (hspot:∀q,src=some q->q.spot=none) (hy:RowC w src m size ys) (h1:∀u∈ys,u.oneCell'=true)
 (hbd:(n+m)*bytes<=140737488355328) (hbd':n+m<=9223372036854775807)
 (B:Nat) (W:World) (hb:Below B W w) (hB:B<=base)
 (h:∀g' cap' w',OwnC e size w' base g' (n+m) cap' (cs++ys)->Below B W w'->K (a.put o.dst (.slice (some ⟨g',0,none⟩) (n+m) cap')) w'):
 if Region.wanted o (yielded ops a.tmps)=true then Oper.wp P o a w K Q else E:=by
 have hw:Region.wanted o (yielded ops a.tmps)=true:=by simp [Region.wanted,hgd]
 rw [if_pos hw];exact iX w s x t ho e ht z size bytes hi hzs hsz base g n cap cs hs hown src m c ys hx hnil hspot hy h1 hbd hbd' B W hb hB h
def bo (va level:Int):Int:=if level=0 then va/64%8 else if level=1 then va/512%8 else va/4096%8
abbrev bF:=Int × Int × Int
def bb (zs:List Int) (va:Int):Nat->Int->Int × Int × Int × List bF
 | l,n=>
  if bw zs.length (64*n+8*bo va l) 8=false then (3,l,0,[])
  else if aH (rdV zs (64*n+8*bo va l) 8) l=0 then (2,l,0,[])
  else if aH (rdV zs (64*n+8*bo va l) 8) l=2 then (1,l,rdV zs (64*n+8*bo va l) 8,[((l:Int),64*n+8*bo va l,rdV zs (64*n+8*bo va l) 8)])
  else match l with
   | 0=>(2,0,0,[])
   | k+1=>((bb zs va k (bj (rdV zs (64*n+8*bo va l) 8))).1,(bb zs va k (bj (rdV zs (64*n+8*bo va l) 8))).2.1,(bb zs va k (bj (rdV zs (64*n+8*bo va l) 8))).2.2.1,
    ((l:Int),64*n+8*bo va l,rdV zs (64*n+8*bo va l) 8)::(bb zs va k (bj (rdV zs (64*n+8*bo va l) 8))).2.2.2)
def aQ (zs:List Int) (root va:Int):Int × Int × Int × List bF:=
 if bH va=false then (2,2,0,[]) else bb zs va 2 (root%17592186044416)
def ck (kind:Int):Int:=if kind=0 then 12 else if kind=1 then 13 else 15
def bN (kind:Int):Int:=if kind=0 then 1 else if kind=1 then 5 else 7
def onM (mode satp:Int):Bool:=satp/1152921504606846976%16 == 8 && (mode == 0 || mode == 1)
def au (satp:Int):Int:=satp/17592186044416%65536
def ct (pte level mode:Int) (sum mxr:Bool) (kind va:Int):Int × Int:=
 if aY pte kind mode sum mxr=true then (0,cz pte level va) else (ck kind,0)
def bx (r:Int × Int × Int × List bF) (mode:Int) (sum mxr:Bool) (kind va:Int):Int × Int:=
 if r.1=2 then (ck kind,0) else if r.1=3 then (bN kind,0) else ct r.2.2.1 r.2.1 mode sum mxr kind va
def fO (r:bF):List Value:=[.int .i64 r.1,.int .u64 r.2.1,.int .u64 r.2.2]
def aP:List bF->List Value
 | []=>[]
 | r::rs=>fO r++aP rs
theorem hJ:∀rs:List bF,(aP rs).length=rs.length*3
 | []=>rfl
 | r::rs=>by simp [aP,fO,hJ rs];omega
theorem ef:∀rs:List bF,∀u∈aP rs,u.oneCell'=true
 | [],u,h=>by simp [aP] at h
 | r::rs,u,h=>by
  simp only [aP,List.mem_append] at h;rcases h with h | h
  ·simp [fO] at h;rcases h with rfl | rfl | rfl <;> rfl
  ·exact ef rs u h
theorem ag {w:World} {g:Nat} {T:TypeId} {a b c d:Value} (h:w.heap[g]?=some (.cells #[a,b,c,d] T (0,0))):
 (w.cell? ⟨g,0,none⟩=some a∧w.cell? ⟨g,1,none⟩=some b∧w.cell? ⟨g,2,none⟩=some c∧w.cell? ⟨g,3,none⟩=some d)∧
 (w.frozen? ⟨g,0,none⟩=false∧w.frozen? ⟨g,1,none⟩=false∧w.frozen? ⟨g,2,none⟩=false∧w.frozen? ⟨g,3,none⟩=false):=by
 simp [World.cell?,World.frozen?,h]
theorem dB (va level:Int) (w:World) (h0:0<=va) (h1:va<=18446744073709551615) (hl:0<=level) (hl':level<=2):
 Calls Tryz.prog 52 #[.int .u64 va,.int .i64 level] w fun e w'=>e=.returned (.int .u64 (bo va level))∧∃n,w'=w.drewN n:=by
 rcases (show level=0∨level=1∨level=2 by omega) with rfl | rfl | rfl
 ·go_enter Tryz.func52,Tryz.ntmps52;go_wp2_with fail;refine (aM va 6 8 64 8 w h0 h1 (by omega) (by omega) (by omega) (by omega) rfl rfl).mono ?_;rintro e w' ⟨rfl,nq,rfl⟩;go_wp2_with fail;go_ret;exact ⟨rfl,nq,rfl⟩
 ·go_enter Tryz.func52,Tryz.ntmps52;go_wp2_with fail;refine (aM va 9 11 512 8 w h0 h1 (by omega) (by omega) (by omega) (by omega) rfl rfl).mono ?_;rintro e w' ⟨rfl,nq,rfl⟩;go_wp2_with fail;go_ret;exact ⟨rfl,nq,rfl⟩
 ·go_enter Tryz.func52,Tryz.ntmps52;go_wp2_with fail;refine (aM va 12 14 4096 8 w h0 h1 (by omega) (by omega) (by omega) (by omega) rfl rfl).mono ?_;rintro e w' ⟨rfl,nq,rfl⟩;go_wp2_with fail;go_ret;exact ⟨rfl,nq,rfl⟩
theorem Tryz.infoRec:(Tryz.prog.info? 71).map (fun i=>(i.zero,i.size,i.bytes))=some (some (.agg #[.int .i64 0,.int .u64 0,.int .u64 0]),3,24):=by kernel_rfl
theorem hM (l a v:Int) (w:World):
 Calls Tryz.prog 54 #[.int .i64 l,.int .u64 a,.int .u64 v] w fun e w'=>
  e=.returned (.slice (some ⟨w.heap.size,0,none⟩) 1 1)∧w'=w.alloc (.cells #[.int .i64 l,.int .u64 a,.int .u64 v] 71):=by
 go_enter Tryz.func54,Tryz.ntmps54;go_wp2_with fail;go_ret;exact ⟨rfl,rfl⟩
theorem fH (va level:Int):0<=bo va level∧bo va level<=7:=by
 unfold bo;split
 ·omega
 ·split <;> omega
theorem fn (zs:List Int) (a n:Int) (hn:n<=8) (h:∀i:Nat,0<=zs[i]?.getD 0∧zs[i]?.getD 0<=255):0<=rdV zs a n∧rdV zs a n<=18446744073709551615:=by
 unfold rdV;split
 ·have:=cZ zs a.toNat n.toNat h;have hp:(256:Int)^n.toNat<=18446744073709551616:=by
   rcases (show n.toNat=0∨n.toNat=1∨n.toNat=2∨n.toNat=3∨n.toNat=4∨n.toNat=5∨n.toNat=6∨n.toNat=7∨n.toNat=8 by omega) with h | h | h | h | h | h | h | h | h <;> rw [h] <;> decide
  omega
 ·omega
theorem mP {v:World} {p:Nat} {T:TypeId} {a b c d u:Value} (h:v.heap[p]?=some (.cells #[a,b,c,d] T (0,0))):(v.setCell ⟨p,3,none⟩ u).heap[p]?=some (.cells #[a,b,c,u] T (0,0)):=by
 simp [World.setCell,Array.getElem?_modify,h]
theorem gb4 (v:World) (g:Nat) (x y z u:Value):v.grownBy ((((v.setCell ⟨g,0,none⟩ x).setCell ⟨g,1,none⟩ y).setCell ⟨g,2,none⟩ z).setCell ⟨g,3,none⟩ u) (some g):=
 aj (aj (aj (aj (aO v (some g)) 0 x) 1 y) 2 z) 3 u
theorem dS {B:Nat} {a w:World} {g:Nat} (h:Below B a w) (hg:B<=g) (x y z u:Value):Below B a ((((w.setCell ⟨g,0,none⟩ x).setCell ⟨g,1,none⟩ y).setCell ⟨g,2,none⟩ z).setCell ⟨g,3,none⟩ u):=
 (((h.setCell (p:=⟨g,0,none⟩) hg x).setCell (p:=⟨g,1,none⟩) hg y).setCell (p:=⟨g,2,none⟩) hg z).setCell (p:=⟨g,3,none⟩) hg u
theorem lG (V:World) (g:Nat) (hg:V.heap.size=g) (e:TypeId) (n size:Nat) (cs:List Value) (hn:cs.length=n*size) (hm:n<=maxLen):RowC (V.alloc (.cells cs.toArray e)).drew (some ⟨g,0,none⟩) n size cs:=by
 subst hg;exact (OwnC.new e size V cs n hn hm).row
def dC (base:Nat) (w':World) (e:Ending) (r:Int × Int × Int × List bF):Prop:=
 ∃a cap,e=.returned (.agg #[.int .i64 r.1,.int .i64 r.2.1,.int .u64 r.2.2.1,.slice a r.2.2.2.length cap])∧RowC w' a r.2.2.2.length 3 (aP r.2.2.2)∧
  (a=none->r.2.2.2.length=0∧cap=0)∧(∀q,a=some q->q.spot=none∧base<=q.block)∧r.2.2.2.length<=cap
theorem eR (x:Int):0<=bj x∧bj x<17592186044416:=⟨Int.emod_nonneg _ (by omega),Int.emod_lt_of_pos _ (by omega)⟩
theorem eg (p l:Int):aH p l=0∨aH p l=1∨aH p l=2:=by
 unfold aH;split
 ·exact .inl rfl
 ·split
  ·split
   ·exact .inl rfl
   ·exact .inr (.inl rfl)
  ·split
   ·exact .inl rfl
   ·exact .inr (.inr rfl)
theorem da (p:Int):aH p 0≠1:=by
 unfold aH;split
 ·simp
 ·split
  ·simp
  ·split <;> simp
theorem aC {B:Nat} {w w':World} {g:Nat} {o:Obj} (h:w.heap[g]?=some o) (hb:Below B w w') (hg:g<B):w'.heap[g]?=some o:=by rw [hb.block g hg,h]
theorem fP (a:Option Addr) (len cap:Nat) (zs:List Int) (va lv n ix rv:Int) (w:World) (hl:len<=1048576) (hc:len<=cap) (hm:cap<=9223372036854775807) (hv0:0<=va) (hv1:va<=18446744073709551615)
 (h0:0<=lv) (h2:lv<=2) (hn0:0<=n) (hn1:n<17592186044416) (hB:Byt w a len zs) (hix:Hid (bo va lv=ix)) (hib:0<=ix∧ix<=7) (hrv:Hid (rdV zs (64*n+8*ix) 8=rv)) (hrb:0<=rv∧rv<=18446744073709551615)
 (hg:Hid (bw len (64*n+8*ix) 8=false)):
 Calls Tryz.prog 27 #[.slice a len cap,.int .u64 n,.int .i64 lv,.int .u64 va] w fun e w'=>dC w.heap.size w' e (3,lv,0,[])∧Below w.heap.size w w':=by
 have hz:=hB.1;have H8:Hid ((w.alloc (Obj.cells #[Value.int .i64 0,Value.int .i64 0,Value.int .u64 0,Value.slice none 0 0] 66)).heap[w.heap.size]?=some (.cells #[Value.int .i64 0,Value.int .i64 0,Value.int .u64 0,Value.slice none 0 0] 66 (0,0))):=heap_alloc_new _ _;have n1:=(Below.refl w.heap.size w).alloc (Nat.le_refl _) (Obj.cells #[Value.int .i64 0,Value.int .i64 0,Value.int .u64 0,Value.slice none 0 0] 66);have l1:w.heap.size<(w.alloc (Obj.cells #[Value.int .i64 0,Value.int .i64 0,Value.int .u64 0,Value.slice none 0 0] 66)).heap.size:=by simp
 go_enter Tryz.func27,Tryz.ntmps27;go_wp2_with fail;generalize w.alloc (Obj.cells #[Value.int .i64 0,Value.int .i64 0,Value.int .u64 0,Value.slice none 0 0] 66)=v1 at H8 n1 l1 |-;refine (dB va lv v1 hv0 hv1 h0 h2).mono ?_;rintro e w' ⟨rfl,nq,rfl⟩;rw [hix.out];have n2:Below w.heap.size w (v1.drewN nq):=below_drewN n1 nq;have H9:Hid ((v1.drewN nq).heap[w.heap.size]?=some (.cells #[Value.int .i64 0,Value.int .i64 0,Value.int .u64 0,Value.slice none 0 0] 66 (0,0))):=H8;have l2:w.heap.size<(v1.drewN nq).heap.size:=l1;generalize v1.drewN nq=v2 at n2 H9 l2 |-;clear H8 l1 n1;go_wp2_with fail;refine (cT a len cap zs (64*n+8*ix) 8 v2 (hB.keep n2) hl hc hm (by omega) (by omega) (by omega)).mono ?_;rintro e v3 ⟨rfl,n3⟩;rw [hrv.out,hg.out];have n13:=Below.step n2 n3 (Nat.le_refl _);have H10:Hid (v3.heap[w.heap.size]?=some (.cells #[Value.int .i64 0,Value.int .i64 0,Value.int .u64 0,Value.slice none 0 0] 66 (0,0))):=aC H9.out n3 l2;have l3:w.heap.size<v3.heap.size:=Nat.lt_of_lt_of_le l2 n3.size;clear H9 n2 n3 l2;obtain ⟨⟨d0,d1,d2,d3⟩,e0,e1,e2,e3⟩:=ag H10.out;go_wp2_with fail;refine bodyPost_ret (v:=.agg #[.int .i64 3,.int .i64 lv,.int .u64 0,.slice none 0 0]) (by simp [results,Tryz.results27,go_sem,d0,d1,d2,d3,l3]) rfl ⟨⟨none,0,rfl,RowC.nil _ _ _,fun _=>⟨rfl,rfl⟩,(by intro q hq;cases hq),Nat.zero_le _⟩,?_⟩;exact (dS n13 (Nat.le_refl _) _ _ _ _).alloc (by simpa [World.setCell] using n13.size) _
theorem fQ (a:Option Addr) (len cap:Nat) (zs:List Int) (va lv n ix rv:Int) (w:World) (hl:len<=1048576) (hc:len<=cap) (hm:cap<=9223372036854775807) (hv0:0<=va) (hv1:va<=18446744073709551615)
 (h0:0<=lv) (h2:lv<=2) (hn0:0<=n) (hn1:n<17592186044416) (hB:Byt w a len zs) (hix:Hid (bo va lv=ix)) (hib:0<=ix∧ix<=7) (hrv:Hid (rdV zs (64*n+8*ix) 8=rv)) (hrb:0<=rv∧rv<=18446744073709551615)
 (hg:Hid (bw len (64*n+8*ix) 8=true)) (hk:Hid (aH rv lv=0)):
 Calls Tryz.prog 27 #[.slice a len cap,.int .u64 n,.int .i64 lv,.int .u64 va] w fun e w'=>dC w.heap.size w' e (2,lv,0,[])∧Below w.heap.size w w':=by
 have hz:=hB.1;have H8:Hid ((w.alloc (Obj.cells #[Value.int .i64 0,Value.int .i64 0,Value.int .u64 0,Value.slice none 0 0] 66)).heap[w.heap.size]?=some (.cells #[Value.int .i64 0,Value.int .i64 0,Value.int .u64 0,Value.slice none 0 0] 66 (0,0))):=heap_alloc_new _ _;have n1:=(Below.refl w.heap.size w).alloc (Nat.le_refl _) (Obj.cells #[Value.int .i64 0,Value.int .i64 0,Value.int .u64 0,Value.slice none 0 0] 66);have l1:w.heap.size<(w.alloc (Obj.cells #[Value.int .i64 0,Value.int .i64 0,Value.int .u64 0,Value.slice none 0 0] 66)).heap.size:=by simp
 go_enter Tryz.func27,Tryz.ntmps27;go_wp2_with fail;generalize w.alloc (Obj.cells #[Value.int .i64 0,Value.int .i64 0,Value.int .u64 0,Value.slice none 0 0] 66)=v1 at H8 n1 l1 |-;refine (dB va lv v1 hv0 hv1 h0 h2).mono ?_;rintro e w' ⟨rfl,nq,rfl⟩;rw [hix.out];have n2:Below w.heap.size w (v1.drewN nq):=below_drewN n1 nq;have H9:Hid ((v1.drewN nq).heap[w.heap.size]?=some (.cells #[Value.int .i64 0,Value.int .i64 0,Value.int .u64 0,Value.slice none 0 0] 66 (0,0))):=H8;have l2:w.heap.size<(v1.drewN nq).heap.size:=l1;generalize v1.drewN nq=v2 at n2 H9 l2 |-;clear H8 l1 n1;go_wp2_with fail;refine (cT a len cap zs (64*n+8*ix) 8 v2 (hB.keep n2) hl hc hm (by omega) (by omega) (by omega)).mono ?_;rintro e v3 ⟨rfl,n3⟩;rw [hrv.out,hg.out];have n13:=Below.step n2 n3 (Nat.le_refl _);have H10:Hid (v3.heap[w.heap.size]?=some (.cells #[Value.int .i64 0,Value.int .i64 0,Value.int .u64 0,Value.slice none 0 0] 66 (0,0))):=aC H9.out n3 l2;have l3:w.heap.size<v3.heap.size:=Nat.lt_of_lt_of_le l2 n3.size;clear H9 n2 n3 l2;go_wp2_with fail;have a4:=bm v3 #[Value.bool true,Value.int IntKind.u64 rv] 111;generalize v3.alloc (Obj.cells #[Value.bool true,Value.int IntKind.u64 rv] 111)=v4 at a4 |-;obtain ⟨l4,c4,n4⟩:=a4;have c41:v4.cell? ⟨v3.heap.size,1,none⟩=some (.int .u64 rv):=c4 1;have n14:=Below.step n13 n4 (Nat.le_refl _);have H11:Hid (v4.heap[w.heap.size]?=some (.cells #[Value.int .i64 0,Value.int .i64 0,Value.int .u64 0,Value.slice none 0 0] 66 (0,0))):=aC H10.out n4 l3;clear c4 n13 n4 H10;refine (bT rv lv v4 hrb.1 hrb.2 (by omega) (by omega)).mono ?_;rintro e w' ⟨rfl,nk,rfl⟩;rw [hk.out];have n15:Below w.heap.size w (v4.drewN nk):=below_drewN n14 nk;have c51:(v4.drewN nk).cell? ⟨v3.heap.size,1,none⟩=some (.int .u64 rv):=c41;have H12:Hid ((v4.drewN nk).heap[w.heap.size]?=some (.cells #[Value.int .i64 0,Value.int .i64 0,Value.int .u64 0,Value.slice none 0 0] 66 (0,0))):=H11;have l5:v3.heap.size<(v4.drewN nk).heap.size:=l4;generalize v4.drewN nk=v5 at n15 c51 H12 l5 |-;clear n14 c41 H11 l4;obtain ⟨⟨d0,d1,d2,d3⟩,e0,e1,e2,e3⟩:=ag H12.out;go_wp2_with fail;refine bodyPost_ret (v:=.agg #[.int .i64 2,.int .i64 lv,.int .u64 0,.slice none 0 0]) (by simp [results,Tryz.results27,go_sem,d0,d1,d2,d3]) rfl ⟨⟨none,0,rfl,RowC.nil _ _ _,fun _=>⟨rfl,rfl⟩,(by intro q hq;cases hq),Nat.zero_le _⟩,?_⟩;exact dS n15 (Nat.le_refl _) _ _ _ _
theorem fx (a:Option Addr) (len cap:Nat) (zs:List Int) (va lv n ix rv:Int) (w:World) (hl:len<=1048576) (hc:len<=cap) (hm:cap<=9223372036854775807) (hv0:0<=va) (hv1:va<=18446744073709551615)
 (h0:0<=lv) (h2:lv<=2) (hn0:0<=n) (hn1:n<17592186044416) (hB:Byt w a len zs) (hix:Hid (bo va lv=ix)) (hib:0<=ix∧ix<=7) (hrv:Hid (rdV zs (64*n+8*ix) 8=rv)) (hrb:0<=rv∧rv<=18446744073709551615)
 (hg:Hid (bw len (64*n+8*ix) 8=true)) (hk:Hid (aH rv lv=2)):
 Calls Tryz.prog 27 #[.slice a len cap,.int .u64 n,.int .i64 lv,.int .u64 va] w fun e w'=>dC w.heap.size w' e (1,lv,rv,[(lv,64*n+8*ix,rv)])∧Below w.heap.size w w':=by
 have hz:=hB.1;have H8:Hid ((w.alloc (Obj.cells #[Value.int .i64 0,Value.int .i64 0,Value.int .u64 0,Value.slice none 0 0] 66)).heap[w.heap.size]?=some (.cells #[Value.int .i64 0,Value.int .i64 0,Value.int .u64 0,Value.slice none 0 0] 66 (0,0))):=heap_alloc_new _ _;have n1:=(Below.refl w.heap.size w).alloc (Nat.le_refl _) (Obj.cells #[Value.int .i64 0,Value.int .i64 0,Value.int .u64 0,Value.slice none 0 0] 66);have l1:w.heap.size<(w.alloc (Obj.cells #[Value.int .i64 0,Value.int .i64 0,Value.int .u64 0,Value.slice none 0 0] 66)).heap.size:=by simp
 go_enter Tryz.func27,Tryz.ntmps27;go_wp2_with fail;generalize w.alloc (Obj.cells #[Value.int .i64 0,Value.int .i64 0,Value.int .u64 0,Value.slice none 0 0] 66)=v1 at H8 n1 l1 |-;refine (dB va lv v1 hv0 hv1 h0 h2).mono ?_;rintro e w' ⟨rfl,nq,rfl⟩;rw [hix.out];have n2:Below w.heap.size w (v1.drewN nq):=below_drewN n1 nq;have H9:Hid ((v1.drewN nq).heap[w.heap.size]?=some (.cells #[Value.int .i64 0,Value.int .i64 0,Value.int .u64 0,Value.slice none 0 0] 66 (0,0))):=H8;have l2:w.heap.size<(v1.drewN nq).heap.size:=l1;generalize v1.drewN nq=v2 at n2 H9 l2 |-;clear H8 l1 n1;go_wp2_with fail;refine (cT a len cap zs (64*n+8*ix) 8 v2 (hB.keep n2) hl hc hm (by omega) (by omega) (by omega)).mono ?_;rintro e v3 ⟨rfl,n3⟩;rw [hrv.out,hg.out];have n13:=Below.step n2 n3 (Nat.le_refl _);have H10:Hid (v3.heap[w.heap.size]?=some (.cells #[Value.int .i64 0,Value.int .i64 0,Value.int .u64 0,Value.slice none 0 0] 66 (0,0))):=aC H9.out n3 l2;have l3:w.heap.size<v3.heap.size:=Nat.lt_of_lt_of_le l2 n3.size;clear H9 n2 n3 l2;go_wp2_with fail;have a4:=bm v3 #[Value.bool true,Value.int IntKind.u64 rv] 111;generalize v3.alloc (Obj.cells #[Value.bool true,Value.int IntKind.u64 rv] 111)=v4 at a4 |-;obtain ⟨l4,c4,n4⟩:=a4;have c41:v4.cell? ⟨v3.heap.size,1,none⟩=some (.int .u64 rv):=c4 1;have n14:=Below.step n13 n4 (Nat.le_refl _);have H11:Hid (v4.heap[w.heap.size]?=some (.cells #[Value.int .i64 0,Value.int .i64 0,Value.int .u64 0,Value.slice none 0 0] 66 (0,0))):=aC H10.out n4 l3;clear c4 n13 n4 H10;refine (bT rv lv v4 hrb.1 hrb.2 (by omega) (by omega)).mono ?_;rintro e w' ⟨rfl,nk,rfl⟩;rw [hk.out];have n15:Below w.heap.size w (v4.drewN nk):=below_drewN n14 nk;have c51:(v4.drewN nk).cell? ⟨v3.heap.size,1,none⟩=some (.int .u64 rv):=c41;have H12:Hid ((v4.drewN nk).heap[w.heap.size]?=some (.cells #[Value.int .i64 0,Value.int .i64 0,Value.int .u64 0,Value.slice none 0 0] 66 (0,0))):=H11;have l5:v3.heap.size<(v4.drewN nk).heap.size:=l4;generalize v4.drewN nk=v5 at n15 c51 H12 l5 |-;clear n14 c41 H11 l4;obtain ⟨⟨d0,d1,d2,d3⟩,e0,e1,e2,e3⟩:=ag H12.out;have l6:w.heap.size<v5.heap.size:=Nat.lt_trans l3 l5;have ne1:v5.heap.size≠v3.heap.size:=by omega
 have ne2:w.heap.size≠v3.heap.size:=by omega
 have ne3:v3.heap.size≠w.heap.size:=by omega
 go_wp2_with fail;go_region_held3 (fun w'=>w'.cell? ⟨v3.heap.size,1,none⟩=some (.int .u64 rv)) (go_keep)
  (first | (go_at_call 54;refine (hM _ _ _ _).mono ?_;rintro e w' ⟨rfl,rfl⟩))
 go_wp2_with fail;refine bodyPost_ret (v:=.agg #[.int .i64 1,.int .i64 lv,.int .u64 rv,.slice (some ⟨v5.heap.size,0,none⟩) 1 1]) (by simp [results,Tryz.results27,go_sem,d0,d1,d2,d3,l6]) rfl
  ⟨⟨some ⟨v5.heap.size,0,none⟩,1,rfl,lG _ _ (by simp [World.setCell]) _ 1 3 (aP [(lv,64*n+8*ix,rv)]) (hJ _) (by decide),(by intro h;cases h),(by intro q hq;cases hq;exact ⟨rfl,Nat.le_of_lt l6⟩),Nat.le_refl _⟩,?_⟩
 exact ((dS n15 (Nat.le_refl _) _ _ _ _).alloc (by simpa [World.setCell] using n15.size) _).drew
theorem jt (a:Option Addr) (len cap:Nat) (zs:List Int) (va lv n ix rv:Int) (w:World) (hl:len<=1048576) (hc:len<=cap) (hm:cap<=9223372036854775807) (hv0:0<=va) (hv1:va<=18446744073709551615)
 (h0:0<=lv) (h2:lv<=2) (hn0:0<=n) (hn1:n<17592186044416) (hB:Byt w a len zs) (hix:Hid (bo va lv=ix)) (hib:0<=ix∧ix<=7) (hrv:Hid (rdV zs (64*n+8*ix) 8=rv)) (hrb:0<=rv∧rv<=18446744073709551615)
 (hg:Hid (bw len (64*n+8*ix) 8=true)) (hk:Hid (aH rv lv=1)) (NX:Int × Int × Int × List bF) (hlen:NX.2.2.2.length<=2) (h1:1<=lv)
 (hnx:Hid (∀w':World,Byt w' a len zs->
   Calls Tryz.prog 27 #[.slice a len cap,.int .u64 (bj rv),.int .i64 (lv-1),.int .u64 va] w' fun e w''=>dC w'.heap.size w'' e NX∧Below w'.heap.size w' w'')):
 Calls Tryz.prog 27 #[.slice a len cap,.int .u64 n,.int .i64 lv,.int .u64 va] w fun e w'=>
  dC w.heap.size w' e (NX.1,NX.2.1,NX.2.2.1,(lv,64*n+8*ix,rv)::NX.2.2.2)∧Below w.heap.size w w':=by
 have hz:=hB.1;have H8:Hid ((w.alloc (Obj.cells #[Value.int .i64 0,Value.int .i64 0,Value.int .u64 0,Value.slice none 0 0] 66)).heap[w.heap.size]?=some (.cells #[Value.int .i64 0,Value.int .i64 0,Value.int .u64 0,Value.slice none 0 0] 66 (0,0))):=heap_alloc_new _ _;have n1:=(Below.refl w.heap.size w).alloc (Nat.le_refl _) (Obj.cells #[Value.int .i64 0,Value.int .i64 0,Value.int .u64 0,Value.slice none 0 0] 66);have l1:w.heap.size<(w.alloc (Obj.cells #[Value.int .i64 0,Value.int .i64 0,Value.int .u64 0,Value.slice none 0 0] 66)).heap.size:=by simp
 go_enter Tryz.func27,Tryz.ntmps27;go_wp2_with fail;generalize w.alloc (Obj.cells #[Value.int .i64 0,Value.int .i64 0,Value.int .u64 0,Value.slice none 0 0] 66)=v1 at H8 n1 l1 |-;refine (dB va lv v1 hv0 hv1 h0 h2).mono ?_;rintro e w' ⟨rfl,nq,rfl⟩;rw [hix.out];have n2:Below w.heap.size w (v1.drewN nq):=below_drewN n1 nq;have H9:Hid ((v1.drewN nq).heap[w.heap.size]?=some (.cells #[Value.int .i64 0,Value.int .i64 0,Value.int .u64 0,Value.slice none 0 0] 66 (0,0))):=H8;have l2:w.heap.size<(v1.drewN nq).heap.size:=l1;generalize v1.drewN nq=v2 at n2 H9 l2 |-;clear H8 l1 n1;go_wp2_with fail;refine (cT a len cap zs (64*n+8*ix) 8 v2 (hB.keep n2) hl hc hm (by omega) (by omega) (by omega)).mono ?_;rintro e v3 ⟨rfl,n3⟩;rw [hrv.out,hg.out];have n13:=Below.step n2 n3 (Nat.le_refl _);have H10:Hid (v3.heap[w.heap.size]?=some (.cells #[Value.int .i64 0,Value.int .i64 0,Value.int .u64 0,Value.slice none 0 0] 66 (0,0))):=aC H9.out n3 l2;have l3:w.heap.size<v3.heap.size:=Nat.lt_of_lt_of_le l2 n3.size;clear H9 n2 n3 l2;go_wp2_with fail;have a4:=bm v3 #[Value.bool true,Value.int IntKind.u64 rv] 111;generalize v3.alloc (Obj.cells #[Value.bool true,Value.int IntKind.u64 rv] 111)=v4 at a4 |-;obtain ⟨l4,c4,n4⟩:=a4;have c41:v4.cell? ⟨v3.heap.size,1,none⟩=some (.int .u64 rv):=c4 1;have n14:=Below.step n13 n4 (Nat.le_refl _);have H11:Hid (v4.heap[w.heap.size]?=some (.cells #[Value.int .i64 0,Value.int .i64 0,Value.int .u64 0,Value.slice none 0 0] 66 (0,0))):=aC H10.out n4 l3;clear c4 n13 n4 H10;refine (bT rv lv v4 hrb.1 hrb.2 (by omega) (by omega)).mono ?_;rintro e w' ⟨rfl,nk,rfl⟩;rw [hk.out];have n15:Below w.heap.size w (v4.drewN nk):=below_drewN n14 nk;have c51:(v4.drewN nk).cell? ⟨v3.heap.size,1,none⟩=some (.int .u64 rv):=c41;have H12:Hid ((v4.drewN nk).heap[w.heap.size]?=some (.cells #[Value.int .i64 0,Value.int .i64 0,Value.int .u64 0,Value.slice none 0 0] 66 (0,0))):=H11;have l5:v3.heap.size<(v4.drewN nk).heap.size:=l4;generalize v4.drewN nk=v5 at n15 c51 H12 l5 |-;clear n14 c41 H11 l4;go_wp2_with fail;refine (bc rv v5 hrb.1 hrb.2).mono ?_;rintro e w' ⟨rfl,np,rfl⟩;have n16:Below w.heap.size w (v5.drewN np):=below_drewN n15 np;have c61:(v5.drewN np).cell? ⟨v3.heap.size,1,none⟩=some (.int .u64 rv):=c51;have H13:Hid ((v5.drewN np).heap[w.heap.size]?=some (.cells #[Value.int .i64 0,Value.int .i64 0,Value.int .u64 0,Value.slice none 0 0] 66 (0,0))):=H12;have l6:v3.heap.size<(v5.drewN np).heap.size:=l5;generalize v5.drewN np=v6 at n16 c61 H13 l6 |-;clear n15 c51 H12 l5;go_wp2_with fail;refine (hnx.out v6 (hB.keep n16)).mono ?_;rintro e v7 ⟨⟨a7,c7,rfl,r7,na7,sp7,nc7⟩,n7⟩;obtain ⟨x1,x2,x3,rs⟩:=NX;simp only at r7 na7 nc7 hlen |-;have n17:=Below.step n16 n7 (Nat.le_refl _);have c71:=Below.cell2 n7 c61 l6;have H14:Hid (v7.heap[w.heap.size]?=some (.cells #[Value.int .i64 0,Value.int .i64 0,Value.int .u64 0,Value.slice none 0 0] 66 (0,0))):=aC H13.out n7 (by omega);have l7:v3.heap.size<v7.heap.size:=Nat.lt_of_lt_of_le l6 n7.size;clear n16 n7 c61 H13 l6;have l8:w.heap.size<v7.heap.size:=Nat.lt_trans l3 l7;go_wp2_with fail;have H15:Hid ((v7.alloc (Obj.cells #[Value.int .i64 x1,Value.int .i64 x2,Value.int .u64 x3,Value.slice a7 rs.length c7] 66)).heap[v7.heap.size]?=some (.cells #[Value.int .i64 x1,Value.int .i64 x2,Value.int .u64 x3,Value.slice a7 rs.length c7] 66 (0,0))):=heap_alloc_new _ _;have n8:=(Below.refl v7.heap.size v7).alloc (Nat.le_refl _) (Obj.cells #[Value.int .i64 x1,Value.int .i64 x2,Value.int .u64 x3,Value.slice a7 rs.length c7] 66);have l9:v7.heap.size<(v7.alloc (Obj.cells #[Value.int .i64 x1,Value.int .i64 x2,Value.int .u64 x3,Value.slice a7 rs.length c7] 66)).heap.size:=by simp
 generalize v7.alloc (Obj.cells #[Value.int .i64 x1,Value.int .i64 x2,Value.int .u64 x3,Value.slice a7 rs.length c7] 66)=v8 at H15 n8 l9 |-;have n18:=Below.step n17 n8 (Nat.le_refl _);have c81:=Below.cell2 n8 c71 l7;have H16:Hid (v8.heap[w.heap.size]?=some (.cells #[Value.int .i64 0,Value.int .i64 0,Value.int .u64 0,Value.slice none 0 0] 66 (0,0))):=aC H14.out n8 l8;have HR:Hid (RowC v8 a7 rs.length 3 (aP rs)):=r7.keep n8;have HN:Hid (a7=none->rs.length=0∧c7=0):=na7;have HSp:Hid (∀q,a7=some q->q.spot=none∧v6.heap.size<=q.block):=sp7;clear r7 na7 sp7 n17 n8 c71 H14;have q3:=(ag H15.out).1.2.2.2;have p3:=(ag H15.out).2.2.2.2;have ne1:v8.heap.size≠v3.heap.size:=by omega
 have ne2:v8.heap.size≠v7.heap.size:=by omega
 have ne4:v7.heap.size≠v8.heap.size:=by omega
 go_region_law (first
  | (refine et _ (by rfl) (.tmp 59) (.tmp 61) 64 (by rfl) 71 Tryz.underlying64 (.agg #[.int .i64 0,.int .u64 0,.int .u64 0]) 3 24 Tryz.infoRec (by rfl) (by decide) v8.heap.size v8.heap.size 1 1 (aP [(lv,64*n+8*ix,rv)]) (by rfl) (OwnC.new 71 3 v8.drew (aP [(lv,64*n+8*ix,rv)]) 1 (by rfl) (by decide)) a7 rs.length c7 (aP rs) (by rfl) HN.out (fun q hq=>(HSp.out q hq).1) (RowC.keep (w:=v8) HR.out ((Below.refl _ _).drew.alloc (Nat.le_refl _) _)) (ef rs) (by omega) (by omega) v8.heap.size v8 ((Below.refl _ _).drew.alloc (Nat.le_refl _) _) (Nat.le_refl _) ?_;intro g9 c9 v9 o9 n9;have q9:=Below.cell2 n9 q3 l9;have p9:=Below.froz2 n9 p3 l9)
  | (go_simp;go_at_call 54;refine (hM _ _ _ _).mono ?_;rintro e w' ⟨rfl,rfl⟩))
 all_goals
  have k9:=aC H15.out n9 l9;have k9':=mP (u:=.slice (some ⟨g9,0,none⟩) (1+rs.length) c9) k9;have m9:=aj (aO v9 (some v7.heap.size)) 3 (.slice (some ⟨g9,0,none⟩) (1+rs.length) c9);have f9:=o9.facts;have n19:Below w.heap.size w v9:=Below.step n18 n9 (Nat.le_refl _);have n110:=Below.gb n19 m9 (by omega) (Nat.lt_of_lt_of_le l9 n9.size);have b9:=aV (aC H16.out n9 (by omega)) m9 (by omega);have r9:=o9.row.gb m9 (by omega);generalize v9.setCell ⟨v7.heap.size,3,none⟩ (.slice (some ⟨g9,0,none⟩) (1+rs.length) c9)=v10 at k9' m9 n110 b9 r9 |-;obtain ⟨⟨d0,d1,d2,d3⟩,e0,e1,e2,e3⟩:=ag b9;obtain ⟨⟨t0,t1,t2,t3⟩,_⟩:=ag k9';have HR9:Hid (RowC v10 (some ⟨g9,0,none⟩) (1+rs.length) 3 (aP [(lv,64*n+8*ix,rv)]++aP rs)):=r9;clear k9 k9' m9 q9 p9 o9 n9 n19 b9 r9 q3 p3 c81;go_wp2_with fail;refine bodyPost_ret (v:=.agg #[.int .i64 x1,.int .i64 x2,.int .u64 x3,.slice (some ⟨g9,0,none⟩) (1+rs.length) c9]) (by simp [results,Tryz.results27,go_sem,d0,d1,d2,d3]) rfl ?_;have e10:1+rs.length=rs.length+1:=Nat.add_comm _ _;rw [e10] at HR9 f9 |-;exact ⟨⟨some ⟨g9,0,none⟩,c9,rfl,RowC.gb HR9.out (gb4 v10 w.heap.size _ _ _ _) (by omega),(by intro h;cases h),(by intro q hq;cases hq;exact ⟨rfl,by show w.heap.size<=g9;omega⟩),f9.2.2.2.1⟩,dS n110 (Nat.le_refl _) _ _ _ _⟩
end Go.Proofs.YtfgogedgolgnaaaGreat
