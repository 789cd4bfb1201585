import Derived.Test.YtkenjknmfhoppaaGreatSk01
import Derived.Deep.RegionHeld3
import Derived.Deep.DrawnRows
import Derived.Deep.RegionLaw
namespace Go.Proofs.YtkenjknmfhoppaaGreat
open Go.RowKit
set_option linter.unusedVariables false
set_option maxHeartbeats 6400000
set_option maxRecDepth 20000
theorem mq (pte kind mode:Int) (sum mxr:Bool) (w:World) (h0:0<=pte) (h1:pte<=18446744073709551615):
 Calls Tryz.prog 60 #[VU pte,VI kind,VI mode,.bool sum,.bool mxr] w fun e w'=>e=.returned (.bool (du pte kind mode sum mxr))∧∃n,w'=w.drewN n:=by
 go_enter Tryz.func60,Tryz.ntmps60;go_wp2_with fail;refine (bW pte 1 2 w h0 h1 (by omega) (by omega) rfl).mono ?_;rintro e w' ⟨rfl,n1,rfl⟩;go_wp2_with fail;refine (bW pte 2 4 _ h0 h1 (by omega) (by omega) rfl).mono ?_;rintro e w' ⟨rfl,n2,rfl⟩;go_wp2_with fail;refine (bW pte 3 8 _ h0 h1 (by omega) (by omega) rfl).mono ?_;rintro e w' ⟨rfl,n3,rfl⟩;go_wp2_with fail;refine (bW pte 4 16 _ h0 h1 (by omega) (by omega) rfl).mono ?_;rintro e w' ⟨rfl,n4,rfl⟩;go_wp2_with fail;refine (bW pte 6 64 _ h0 h1 (by omega) (by omega) rfl).mono ?_;rintro e w' ⟨rfl,n5,rfl⟩;go_wp2_with fail;refine (bW pte 7 128 _ h0 h1 (by omega) (by omega) rfl).mono ?_;rintro e w' ⟨rfl,n6,rfl⟩;by_cases k0:kind=0
 ·subst k0;by_cases m0:mode=0
  ·subst m0;go_wp2_with fail;all_goals (go_ret;exact ⟨aD (by simp_all [du]),_,rfl⟩)
  by_cases m1:mode=1
  ·subst m1;go_wp2_with fail;all_goals (go_ret;exact ⟨aD (by simp_all [du]),_,rfl⟩)
  ·have m0':(mode == 0)=false:=by simpa using m0
   have m1':(mode == 1)=false:=by simpa using m1
   go_wp2_with fail;all_goals (go_ret;exact ⟨aD (by simp_all [du]),_,rfl⟩)
 by_cases k1:kind=1
 ·subst k1;by_cases m0:mode=0
  ·subst m0;go_wp2_with fail;all_goals (go_ret;exact ⟨aD (by simp_all [du]),_,rfl⟩)
  by_cases m1:mode=1
  ·subst m1;go_wp2_with fail;all_goals (go_ret;exact ⟨aD (by simp_all [du]),_,rfl⟩)
  ·have m0':(mode == 0)=false:=by simpa using m0
   have m1':(mode == 1)=false:=by simpa using m1
   go_wp2_with fail;all_goals (go_ret;exact ⟨aD (by simp_all [du]),_,rfl⟩)
 by_cases k2:kind=2
 ·subst k2;by_cases m0:mode=0
  ·subst m0;go_wp2_with fail;all_goals (go_ret;exact ⟨aD (by simp_all [du]),_,rfl⟩)
  by_cases m1:mode=1
  ·subst m1;go_wp2_with fail;all_goals (go_ret;exact ⟨aD (by simp_all [du]),_,rfl⟩)
  ·have m0':(mode == 0)=false:=by simpa using m0
   have m1':(mode == 1)=false:=by simpa using m1
   go_wp2_with fail;all_goals (go_ret;exact ⟨aD (by simp_all [du]),_,rfl⟩)
 have k0':(kind == 0)=false:=by simpa using k0
 have k1':(kind == 1)=false:=by simpa using k1
 have k2':(kind == 2)=false:=by simpa using k2
 by_cases m0:mode=0
 ·subst m0;go_wp2_with fail;all_goals (go_ret;exact ⟨aD (by simp_all [du]),_,rfl⟩)
 by_cases m1:mode=1
 ·subst m1;go_wp2_with fail;all_goals (go_ret;exact ⟨aD (by simp_all [du]),_,rfl⟩)
 ·have m0':(mode == 0)=false:=by simpa using m0
  have m1':(mode == 1)=false:=by simpa using m1
  go_wp2_with fail;all_goals (go_ret;exact ⟨aD (by simp_all [du]),_,rfl⟩)
theorem tO (pte level va:Int) (w:World) (h0:0<=pte) (h1:pte<=18446744073709551615) (hv:0<=va) (hv':va<=18446744073709551615) (hl: -9223372036854775808<=level) (hl':level<=9223372036854775807):
 Calls Tryz.prog 170 #[VU pte,VI level,VU va] w fun e w'=>e=.returned (VU (gM pte level va))∧∃n,w'=w.drewN n:=by
 by_cases hneg:level<0
 ·go_enter Tryz.func170,Tryz.ntmps170;go_wp2;go_ret;exact ⟨dW (by simp [gM,hneg]),0,rfl⟩
 by_cases hgt:2<level
 ·go_enter Tryz.func170,Tryz.ntmps170;go_wp2;go_ret;exact ⟨dW (by simp [gM,hgt]),0,rfl⟩
 have hpp:0<=dI pte∧dI pte<17592186044416:=⟨Int.emod_nonneg _ (by omega),Int.emod_lt_of_pos _ (by omega)⟩;rcases (show level=0∨level=1∨level=2 by omega) with rfl | rfl | rfl
 ·go_enter Tryz.func170,Tryz.ntmps170;go_wp2_with fail;refine (bj 6 64 _ (by omega) rfl).mono ?_;rintro e w' ⟨rfl,rfl⟩;go_wp2;go_quiet ((go_at_call 96;exact Calls.quiet_of (dG pte _ h0 h1)));go_wp2;go_ret;exact ⟨dW (by simp [gM,iu]),nq,rfl⟩
 ·go_enter Tryz.func170,Tryz.ntmps170;go_wp2_with fail;refine (bj 9 512 _ (by omega) rfl).mono ?_;rintro e w' ⟨rfl,rfl⟩;go_wp2;go_quiet ((go_at_call 96;exact Calls.quiet_of (dG pte _ h0 h1)));go_wp2;go_ret;exact ⟨dW (by simp [gM,iu]),nq,rfl⟩
 ·go_enter Tryz.func170,Tryz.ntmps170;go_wp2_with fail;refine (bj 12 4096 _ (by omega) rfl).mono ?_;rintro e w' ⟨rfl,rfl⟩;go_wp2;go_quiet ((go_at_call 96;exact Calls.quiet_of (dG pte _ h0 h1)));go_wp2;go_ret;exact ⟨dW (by simp [gM,iu]),nq,rfl⟩
def RowC (w:World) (a:Option Addr) (n size:Nat) (cs:List Value):Prop:=
 cs.length=n*size∧(n=0∨∃b off,a=some (AD b off)∧b<w.heap.size∧∀i v,cs[i]?=some v->w.cell? ⟨b,off+i,none⟩=some v)
theorem RowC.keep {w w':World} {a:Option Addr} {n size:Nat} {cs:List Value} (h:RowC w a n size cs) (hb:Bw w w'):RowC w' a n size cs:=by
 obtain ⟨h1,h3⟩:=h;refine ⟨h1,?_⟩;rcases h3 with h3 | ⟨b,off,rfl,hlt,hc⟩
 ·exact .inl h3
 ·exact .inr ⟨b,off,rfl,ltl hlt hb.size,fun i v hi=>(hb.cell (p:=⟨b,off+i,none⟩) hlt).trans (hc i v hi)⟩
theorem RowC.gb {w w':World} {b off n size r:Nat} {cs:List Value} (h:RowC w (some (AD b off)) n size cs) (hg:w.grownBy w' (some r)) (hne:b≠r):RowC w' (some (AD b off)) n size cs:=by
 obtain ⟨h1,h3⟩:=h;refine ⟨h1,?_⟩;rcases h3 with h3 | ⟨b',off',e,hlt,hc⟩
 ·exact .inl h3
 ·simp at e;obtain ⟨rfl,rfl⟩:=e;exact .inr ⟨b,off,rfl,ltl hlt hg.size,fun i v hi=>(World.cell?_of_block (hg.block b hlt (by simpa using hne))).trans (hc i v hi)⟩
theorem RowC.gb' {w w':World} {a:Option Addr} {n size r:Nat} {cs:List Value} (h:RowC w a n size cs) (hg:w.grownBy w' (some r)) (hne:∀q,a=some q->q.block≠r):RowC w' a n size cs:=by
 obtain ⟨h1,h3⟩:=h;refine ⟨h1,?_⟩;rcases h3 with h3 | ⟨b,off,rfl,hlt,hc⟩
 ·exact .inl h3
 ·have hne':=hne (AD b off) rfl;exact .inr ⟨b,off,rfl,ltl hlt hg.size,fun i v hi=>(World.cell?_of_block (hg.block b hlt (by simpa using hne'))).trans (hc i v hi)⟩
theorem aB {w w':World} {g r:Nat} {o:Obj} (h:w.heap[g]?=some o) (hg:w.grownBy w' (some r)) (hne:g≠r):w'.heap[g]?=some o:=by
 rw [hg.block g (hpl h) (by simpa using hne),h]
theorem RowC.nil (w:World) (a:Option Addr) (size:Nat):RowC w a 0 size []:=⟨by simp,.inl rfl⟩
theorem Below.froz2 {w w':World} (h:Bw w w') {b o:Nat} {x:Bool} (hc:w.frozen? (AD b o)=x) (hb:b<w.heap.size):w'.frozen? (AD b o)=x:=(h.frozen (p:=(AD b o)) hb).trans hc
def OwnC (e:TypeId) (size:Nat) (w:World) (base g n cap:Nat) (cs:List Value):Prop:=
 w.ownsRow base e size (SL g n cap) n cs
theorem OwnC.new (e:TypeId) (size:Nat) (w:World) (cs:List Value) (n:Nat) (hn:cs.length=n*size) (hm:n<=maxLen):OwnC e size (w.alloc (.cells cs.toArray e)) w.heap.size w.heap.size n n cs:=
 ⟨hn,.inr ⟨w.heap.size,n,_,rfl,nle,er w _,nle,hm,by simp [hn],List.take_of_length_le (by simp [hn])⟩⟩
theorem OwnC.facts {e:TypeId} {size:Nat} {w:World} {base g n cap:Nat} {cs:List Value} (h:OwnC e size w base g n cap cs):
 cs.length=n*size∧base<=g∧g<w.heap.size∧n<=cap∧cap<=maxLen:=by
 obtain ⟨h1,h2⟩:=h;rcases h2 with ⟨h2,_⟩ | ⟨g',cap',cur,h2,hb,hh,hn,hm,hs,ht⟩
 ·simp at h2
 ·simp at h2;obtain ⟨rfl,rfl⟩:=h2;exact ⟨h1,hb,(hpl hh),hn,hm⟩
theorem OwnC.row {e:TypeId} {size:Nat} {w:World} {base g n cap:Nat} {cs:List Value} (h:OwnC e size w base g n cap cs):RowC w (some (AD g 0)) n size cs:=by
 refine ⟨h.1,.inr ⟨g,0,rfl,h.facts.2.2.1,fun i v hi=>?_⟩⟩;have hl:=(List.getElem?_eq_some_iff.1 hi).1;rw [Nat.zero_add,World.ownsRow.cellAt h i (by rw [<-h.1];exact hl),hi]
theorem OwnC.keep {e:TypeId} {size B:Nat} {w w':World} {base g n cap:Nat} {cs:List Value} (h:OwnC e size w base g n cap cs) (hb:Below B w w') (hg:g<B):OwnC e size w' base g n cap cs:=by
 obtain ⟨h1,h2⟩:=h;refine ⟨h1,?_⟩;rcases h2 with ⟨h2,_⟩ | ⟨g',cap',cur,h2,hb',hh,r⟩
 ·simp at h2
 ·have hh':=h2;simp at hh';obtain ⟨rfl,rfl⟩:=hh';exact .inr ⟨_,_,cur,h2,hb',by rw [hb.block _ hg];exact hh,r⟩
theorem OwnC.gb {e:TypeId} {size:Nat} {w w':World} {base g n cap r:Nat} {cs:List Value} (h:OwnC e size w base g n cap cs) (hg:w.grownBy w' (some r)) (hne:g≠r):OwnC e size w' base g n cap cs:=by
 obtain ⟨h1,h2⟩:=h;refine ⟨h1,?_⟩;rcases h2 with ⟨h2,_⟩ | ⟨g',cap',cur,h2,hb',hh,r'⟩
 ·simp at h2
 ·have hh':=h2;simp at hh';obtain ⟨rfl,rfl⟩:=hh';exact .inr ⟨_,_,cur,h2,hb',by rw [hg.block _ (hpl hh) (by simpa using hne)];exact hh,r'⟩
theorem OwnC.low {e:TypeId} {size:Nat} {w:World} {base base' g n cap:Nat} {cs:List Value} (h:OwnC e size w base g n cap cs) (hb:base'<=base):OwnC e size w base' g n cap cs:=by
 obtain ⟨h1,h2⟩:=h;refine ⟨h1,?_⟩;rcases h2 with ⟨h2,_⟩ | ⟨g',cap',cur,h2,hb',r⟩
 ·simp at h2
 ·exact .inr ⟨g',cap',cur,h2,by omega,r⟩
theorem OwnC.of_append {e:TypeId} {size:Nat} {w':World} {base g n cap m:Nat} {v':Value} {cs:List Value} (h:w'.ownsRow base e size v' (n+m) cs)
 (hv:v'=SN↔(SL g n cap)=SN∧m=0):∃g' cap',v'=SL g' (n+m) cap'∧OwnC e size w' base g' (n+m) cap' cs:=by
 rcases h.2 with ⟨h2,_⟩ | ⟨g',cap',cur,h2,r⟩
 ·have:=hv.1 h2;simp at this
 ·refine ⟨g',cap',h2,?_⟩;subst h2;exact h
theorem OwnC.grown {e:TypeId} {size B:Nat} {a w w':World} {base g n cap:Nat} {cs:List Value} (h:Below B a w) (o:OwnC e size w base g n cap cs) (hg:w.grownBy w' (SL g n cap).ownBlock) (hB:B<=base):Below B a w':=by
 have f:=o.facts;exact h.grown hg (by omega) (fun k hk=>by cases hk;show B<=g;omega)
theorem vh {w:World} {b off n size:Nat} {cs:List Value} (h:RowC w (some (AD b off)) n size cs):∀j u,cs[j]?=some u->w.cell? (Addr.add (AD b off) j)=some u:=by
 intro j u hu;obtain ⟨h1,h3⟩:=h;rcases h3 with h3 | ⟨b',off',e,_,hc⟩
 ·subst h3;simp at h1;subst h1;simp at hu
 ·simp at e;obtain ⟨rfl,rfl⟩:=e;have e:Addr.add (AD b off) j=⟨b,off+j,none⟩:=by
   unfold Addr.add;split
   ·next h=>subst h;rfl
   ·rfl
  rw [e];exact hc j u hu
theorem qP {P:Program} (w:World) {o:Oper} {a:Act} {K:Act->World->Prop} {Q:Exit->Act->World->Prop} (s x:Operand) (t:TypeId)
 (ho:o.op=.call { callee:=.builtin .append,args:=#[s,x],argTypes:=#[t,t] }) (e:TypeId) (ht:P.underlying t=some (.slice e)) (z:Value) (size bytes:Nat)
 (hi:(P.info? e).map (fun i=>(i.zero,i.size,i.bytes))=some (some z,size,bytes)) (hzs:z.cells.size=size) (hsz:0<size)
 (base g n cap:Nat) (cs:List Value) (hs:a.eval s=SL g n cap) (hown:OwnC e size w base g n cap cs)
 (src:Option Addr) (m c:Nat) (ys:List Value) (hx:a.eval x=.slice src m c) (hnil:src=none->m=0∧c=0) (hspot:∀q,src=some q->q.spot=none) (hy:RowC w src m size ys) (h1:∀u∈ys,u.oneCell'=true)
 (hbd:(n+m)*bytes<=140737488355328) (hbd':n+m<=9223372036854775807)
 (B:Nat) (W:World) (hb:Below B W w) (hB:B<=base)
 (h:∀g' cap' w',OwnC e size w' base g' (n+m) cap' (cs++ys)->Below B W w'->K (a.put o.dst (SL g' (n+m) cap')) w'):o.wp P a w K Q:=by
 obtain ⟨i0,hi,hz0,hz1,hz2⟩:=info_parts hi;have f:=hown.facts;cases src with
 | none=>
  obtain ⟨rfl,rfl⟩:=hnil rfl;have hys:ys=[]:=by have:=hy.1;simpa using this
  subst hys;have hrun:=run_append_owned_none (P:=P) (w:=w) base t o.type e i0 size ht hi _ n cs hown;unfold Oper.wp;simp [execOp,ho,resolve,invoke,builtin,hs,hx,hrun,Result.andThen];have:=h g cap w (by simpa using hown) hb;simp only [Nat.add_zero] at this;exact this
 | some q=>
  obtain ⟨b,off,spot⟩:=q;have:=hspot ⟨b,off,spot⟩ rfl;simp at this;subst this;refine wp_append_own w s x t ho base e i0 z size bytes ht hi hz0 hz1 hz2 hzs hsz _ n _ hs hown (AD b off) m c ys hx hy.1 (vh hy) h1 (by unfold maxLen;omega) hbd (by omega) ?_;intro v' w' h1 h2 h3;obtain ⟨g',cap',rfl,o4⟩:=OwnC.of_append h1 h3;exact h g' cap' w' o4 (OwnC.grown hb hown h2 hB)
theorem jw {P:Program} (w:World) {ops:Array Oper} {rest:List Oper} {o:Oper} {a:Act} {Q:Exit->Act->World->Prop} (hgd:o.guard=none) (s x:Operand) (t:TypeId)
 (ho:o.op=.call { callee:=.builtin .append,args:=#[s,x],argTypes:=#[t,t] }) (e:TypeId) (ht:P.underlying t=some (.slice e)) (z:Value) (size bytes:Nat)
 (hi:(P.info? e).map (fun i=>(i.zero,i.size,i.bytes))=some (some z,size,bytes)) (hzs:z.cells.size=size) (hsz:0<size)
 (base g n cap:Nat) (cs:List Value) (hs:a.eval s=SL g n cap) (hown:OwnC e size w base g n cap cs)
 (src:Option Addr) (m c:Nat) (ys:List Value) (hx:a.eval x=.slice src m c) (hnil:src=none->m=0∧c=0) (hspot:∀q,src=some q->q.spot=none) (hy:RowC w src m size ys) (h1:∀u∈ys,u.oneCell'=true)
 (hbd:(n+m)*bytes<=140737488355328) (hbd':n+m<=9223372036854775807)
 (B:Nat) (W:World) (hb:Below B W w) (hB:B<=base)
 (h:∀g' cap' w',OwnC e size w' base g' (n+m) cap' (cs++ys)->Below B W w'->wpList P ops Q rest (a.put o.dst (SL g' (n+m) cap')) w'):wpList P ops Q (o::rest) a w:=
 wpList_plain hgd fun _ hK=>qP w s x t ho e ht z size bytes hi hzs hsz base g n cap cs hs hown src m c ys hx hnil hspot hy h1 hbd hbd' B W hb hB fun g' cap' w' h2 h3=>hK _ _ (h g' cap' w' h2 h3)
theorem nY {P:Program} (w:World) {ops:Array Oper} {o:Oper} {a:Act} {K:Act->World->Prop} {Q:Exit->Act->World->Prop} {E:Prop} (hgd:o.guard=none) (s x:Operand) (t:TypeId)
 (ho:o.op=.call { callee:=.builtin .append,args:=#[s,x],argTypes:=#[t,t] }) (e:TypeId) (ht:P.underlying t=some (.slice e)) (z:Value) (size bytes:Nat)
 (hi:(P.info? e).map (fun i=>(i.zero,i.size,i.bytes))=some (some z,size,bytes)) (hzs:z.cells.size=size) (hsz:0<size)
 (base g n cap:Nat) (cs:List Value) (hs:a.eval s=SL g n cap) (hown:OwnC e size w base g n cap cs)
 (src:Option Addr) (m c:Nat) (ys:List Value) (hx:a.eval x=.slice src m c) (hnil:src=none->m=0∧c=0) (hspot:∀q,src=some q->q.spot=none) (hy:RowC w src m size ys) (h1:∀u∈ys,u.oneCell'=true)
 (hbd:(n+m)*bytes<=140737488355328) (hbd':n+m<=9223372036854775807)
 (B:Nat) (W:World) (hb:Below B W w) (hB:B<=base)
 (h:∀g' cap' w',OwnC e size w' base g' (n+m) cap' (cs++ys)->Below B W w'->K (a.put o.dst (SL g' (n+m) cap')) w'):
 if Region.wanted o (yielded ops a.tmps)=true then Oper.wp P o a w K Q else E:=by
 have hw:Region.wanted o (yielded ops a.tmps)=true:=by simp [Region.wanted,hgd]
 rw [if_pos hw];exact qP w s x t ho e ht z size bytes hi hzs hsz base g n cap cs hs hown src m c ys hx hnil hspot hy h1 hbd hbd' B W hb hB h
def dF (va level:Int):Int:=if level=0 then va/64%8 else if level=1 then va/512%8 else va/4096%8
abbrev ef:=Int × Int × Int
def cQ (zs:List Int) (va:Int):Nat->Int->Int × Int × Int × List ef
 | l,n=>
  if dU zs.length (64*n+8*dF va l) 8=false then (3,l,0,[])
  else if bH (rdV zs (64*n+8*dF va l) 8) l=0 then (2,l,0,[])
  else if bH (rdV zs (64*n+8*dF va l) 8) l=2 then (1,l,rdV zs (64*n+8*dF va l) 8,[((l:Int),64*n+8*dF va l,rdV zs (64*n+8*dF va l) 8)])
  else match l with
   | 0=>(2,0,0,[])
   | k+1=>((cQ zs va k (dI (rdV zs (64*n+8*dF va l) 8))).1,(cQ zs va k (dI (rdV zs (64*n+8*dF va l) 8))).2.1,(cQ zs va k (dI (rdV zs (64*n+8*dF va l) 8))).2.2.1,
    ((l:Int),64*n+8*dF va l,rdV zs (64*n+8*dF va l) 8)::(cQ zs va k (dI (rdV zs (64*n+8*dF va l) 8))).2.2.2)
def dn (zs:List Int) (root va:Int):Int × Int × Int × List ef:=
 if dC va=false then (2,2,0,[]) else cQ zs va 2 (root%17592186044416)
def eR (kind:Int):Int:=if kind=0 then 12 else if kind=1 then 13 else 15
def bP (kind:Int):Int:=if kind=0 then 1 else if kind=1 then 5 else 7
def onM (mode satp:Int):Bool:=satp/1152921504606846976%16 == 8 && (mode == 0 || mode == 1)
def aK (satp:Int):Int:=satp/17592186044416%65536
def ft (pte level mode:Int) (sum mxr:Bool) (kind va:Int):Int × Int:=
 if du pte kind mode sum mxr=true then (0,gM pte level va) else (eR kind,0)
def db (r:Int × Int × Int × List ef) (mode:Int) (sum mxr:Bool) (kind va:Int):Int × Int:=
 if r.1=2 then (eR kind,0) else if r.1=3 then (bP kind,0) else ft r.2.2.1 r.2.1 mode sum mxr kind va
def jb (zs:List Int) (mode:Int) (sum mxr:Bool) (satp kind va:Int):Int × Int:=
 if kind<0∨2<kind∨mode<0∨2<mode then (63,0)
 else if onM mode satp=false then (0,va)
 else db (dn zs satp va) mode sum mxr kind va
def sy (r:ef):List Value:=[VI r.1,VU r.2.1,VU r.2.2]
def dc:List ef->List Value
 | []=>[]
 | r::rs=>sy r++dc rs
theorem uu:∀rs:List ef,(dc rs).length=rs.length*3
 | []=>rfl
 | r::rs=>by simp [dc,sy,uu rs];omega
theorem mQ:∀rs:List ef,∀u∈dc rs,u.oneCell'=true
 | [],u,h=>by simp [dc] at h
 | r::rs,u,h=>by
  simp only [dc,List.mem_append] at h;rcases h with h | h
  ·simp [sy] at h;rcases h with rfl | rfl | rfl <;> rfl
  ·exact mQ rs u h
theorem ay {w:World} {g:Nat} {T:TypeId} {a b c d:Value} (h:w.heap[g]?=some (.cells #[a,b,c,d] T (0,0))):
 (w.cell? (AD g 0)=some a∧w.cell? (AD g 1)=some b∧w.cell? (AD g 2)=some c∧w.cell? (AD g 3)=some d)∧
 (w.frozen? (AD g 0)=false∧w.frozen? (AD g 1)=false∧w.frozen? (AD g 2)=false∧w.frozen? (AD g 3)=false):=by
 simp [World.cell?,World.frozen?,h]
theorem kN (va level:Int) (w:World) (h0:0<=va) (h1:va<=18446744073709551615) (hl:0<=level) (hl':level<=2):
 Calls Tryz.prog 132 #[VU va,VI level] w fun e w'=>e=.returned (VU (dF va level))∧∃n,w'=w.drewN n:=by
 rcases (show level=0∨level=1∨level=2 by omega) with rfl | rfl | rfl
 ·go_enter Tryz.func132,Tryz.ntmps132;go_wp2_with fail;refine (bQ va 6 8 64 8 w h0 h1 (by omega) (by omega) (by omega) (by omega) rfl rfl).mono ?_;rintro e w' ⟨rfl,nq,rfl⟩;go_wp2;go_ret;exact ⟨rfl,nq,rfl⟩
 ·go_enter Tryz.func132,Tryz.ntmps132;go_wp2_with fail;refine (bQ va 9 11 512 8 w h0 h1 (by omega) (by omega) (by omega) (by omega) rfl rfl).mono ?_;rintro e w' ⟨rfl,nq,rfl⟩;go_wp2;go_ret;exact ⟨rfl,nq,rfl⟩
 ·go_enter Tryz.func132,Tryz.ntmps132;go_wp2_with fail;refine (bQ va 12 14 4096 8 w h0 h1 (by omega) (by omega) (by omega) (by omega) rfl rfl).mono ?_;rintro e w' ⟨rfl,nq,rfl⟩;go_wp2;go_ret;exact ⟨rfl,nq,rfl⟩
theorem Tryz.infoRec:(Tryz.prog.info? 142).map (fun i=>(i.zero,i.size,i.bytes))=some (some (.agg #[VI 0,VU 0,VU 0]),3,24):=by kernel_rfl
theorem uv (l a v:Int) (w:World):
 Calls Tryz.prog 133 #[VI l,VU a,VU v] w fun e w'=>
  e=.returned (SL w.heap.size 1 1)∧w'=w.alloc (.cells #[VI l,VU a,VU v] 142):=by
 go_enter Tryz.func133,Tryz.ntmps133;go_wp2;go_ret;exact ⟨rfl,rfl⟩
theorem rG (va level:Int):0<=dF va level∧dF va level<=7:=by
 unfold dF;split
 ·omega
 ·split <;> omega
theorem oL (zs:List Int) (a n:Int) (hn:n<=8) (h:∀i:Nat,0<=zs[i]?.getD 0∧zs[i]?.getD 0<=255):0<=rdV zs a n∧rdV zs a n<=18446744073709551615:=by
 unfold rdV;split
 ·have:=fW zs a.toNat n.toNat h;have hp:(256:Int)^n.toNat<=18446744073709551616:=by
   rcases (show n.toNat=0∨n.toNat=1∨n.toNat=2∨n.toNat=3∨n.toNat=4∨n.toNat=5∨n.toNat=6∨n.toNat=7∨n.toNat=8 by omega) with h | h | h | h | h | h | h | h | h <;> rw [h] <;> decide
  omega
 ·omega
theorem Gp {v:World} {p:Nat} {T:TypeId} {a b c d u:Value} (h:v.heap[p]?=some (.cells #[a,b,c,d] T (0,0))):(v.setCell (AD p 3) u).heap[p]?=some (.cells #[a,b,c,u] T (0,0)):=by
 simp [World.setCell,Array.getElem?_modify,h]
theorem gb4 (v:World) (g:Nat) (x y z u:Value):v.grownBy ((((v.setCell (AD g 0) x).setCell (AD g 1) y).setCell (AD g 2) z).setCell (AD g 3) u) (some g):=
 aq (aq (aq (aq (aw v (some g)) 0 x) 1 y) 2 z) 3 u
theorem qr {B:Nat} {a w:World} {g:Nat} (h:Below B a w) (hg:B<=g) (x y z u:Value):Below B a ((((w.setCell (AD g 0) x).setCell (AD g 1) y).setCell (AD g 2) z).setCell (AD g 3) u):=
 (((h.setCell (p:=(AD g 0)) hg x).setCell (p:=(AD g 1)) hg y).setCell (p:=(AD g 2)) hg z).setCell (p:=(AD g 3)) hg u
theorem Eg (V:World) (g:Nat) (hg:V.heap.size=g) (e:TypeId) (n size:Nat) (cs:List Value) (hn:cs.length=n*size) (hm:n<=maxLen):RowC (V.alloc (.cells cs.toArray e)).drew (some (AD g 0)) n size cs:=by
 subst hg;exact (OwnC.new e size V cs n hn hm).row
def me (base:Nat) (w':World) (e:Ending) (r:Int × Int × Int × List ef):Prop:=
 ∃a cap,e=.returned (.agg #[VI r.1,VI r.2.1,VU r.2.2.1,.slice a r.2.2.2.length cap])∧RowC w' a r.2.2.2.length 3 (dc r.2.2.2)∧
  (a=none->r.2.2.2.length=0∧cap=0)∧(∀q,a=some q->q.spot=none∧base<=q.block)∧r.2.2.2.length<=cap
theorem rH (x:Int):0<=dI x∧dI x<17592186044416:=⟨Int.emod_nonneg _ (by omega),Int.emod_lt_of_pos _ (by omega)⟩
theorem mR (p l:Int):bH p l=0∨bH p l=1∨bH p l=2:=by
 unfold bH;split
 ·exact .inl rfl
 ·split
  ·split
   ·exact .inl rfl
   ·exact .inr (.inl rfl)
  ·split
   ·exact .inl rfl
   ·exact .inr (.inr rfl)
theorem jx (p:Int):bH p 0≠1:=by
 unfold bH;split
 ·simp
 ·split
  ·simp
  ·split <;> simp
theorem ag {B:Nat} {w w':World} {g:Nat} {o:Obj} (h:w.heap[g]?=some o) (hb:Below B w w') (hg:g<B):w'.heap[g]?=some o:=by rw [hb.block g hg,h]
theorem sA (a:Option Addr) (len cap:Nat) (zs:List Int) (va lv n ix rv:Int) (w:World) (hl:len<=1048576) (hc:len<=cap) (hm:cap<=9223372036854775807) (hv0:0<=va) (hv1:va<=18446744073709551615)
 (h0:0<=lv) (h2:lv<=2) (hn0:0<=n) (hn1:n<17592186044416) (hB:Byt w a len zs) (hix:Hid (dF va lv=ix)) (hib:0<=ix∧ix<=7) (hrv:Hid (rdV zs (64*n+8*ix) 8=rv)) (hrb:0<=rv∧rv<=18446744073709551615)
 (hg:Hid (dU len (64*n+8*ix) 8=false)):
 Calls Tryz.prog 95 #[.slice a len cap,VU n,VI lv,VU va] w fun e w'=>me w.heap.size w' e (3,lv,0,[])∧Bw w w':=by
 have hz:=hB.1;obtain ⟨v1,Ev1,n1,H8,l1⟩:=al1 w #[VI 0,VI 0,VU 0,SN] 138;go_enter Tryz.func95,Tryz.ntmps95;go_wp2_with fail;rw [Ev1.out];clear Ev1;refine (kN va lv v1 hv0 hv1 h0 h2).mono ?_;rintro e w' ⟨rfl,nq,rfl⟩;rw [hix.out];have n2:=below_drewN n1 nq;have H9:Hid ((v1.drewN nq).heap[w.heap.size]?=some (.cells #[VI 0,VI 0,VU 0,SN] 138 (0,0))):=H8;have l2:w.heap.size<(v1.drewN nq).heap.size:=l1;generalize v1.drewN nq=v2 at n2 H9 l2 |-;clear H8 l1 n1;go_wp2_with fail;refine (ie a len cap zs (64*n+8*ix) 8 v2 (hB.keep n2) hl hc hm (by omega) (by omega) (by omega)).mono ?_;rintro e v3 ⟨rfl,n3⟩;rw [hrv.out,hg.out];have n13:=bst n2 n3;have H10:Hid (v3.heap[w.heap.size]?=some (.cells #[VI 0,VI 0,VU 0,SN] 138 (0,0))):=ag H9.out n3 l2;have l3:w.heap.size<v3.heap.size:=ltl l2 n3.size;clear H9 n2 n3 l2;obtain ⟨⟨d0,d1,d2,d3⟩,e0,e1,e2,e3⟩:=ay H10.out;go_wp2_with fail;refine bodyPost_ret (v:=.agg #[VI 3,VI lv,VU 0,SN]) (by simp [results,Tryz.results95,go_sem,d0,d1,d2,d3,l3]) rfl ⟨⟨none,0,rfl,RowC.nil _ _ _,fun _=>⟨rfl,rfl⟩,(by intro q hq;cases hq),Nat.zero_le _⟩,?_⟩;exact (qr n13 nle _ _ _ _).alloc (by simpa [World.setCell] using n13.size) _
theorem sB (a:Option Addr) (len cap:Nat) (zs:List Int) (va lv n ix rv:Int) (w:World) (hl:len<=1048576) (hc:len<=cap) (hm:cap<=9223372036854775807) (hv0:0<=va) (hv1:va<=18446744073709551615)
 (h0:0<=lv) (h2:lv<=2) (hn0:0<=n) (hn1:n<17592186044416) (hB:Byt w a len zs) (hix:Hid (dF va lv=ix)) (hib:0<=ix∧ix<=7) (hrv:Hid (rdV zs (64*n+8*ix) 8=rv)) (hrb:0<=rv∧rv<=18446744073709551615)
 (hg:Hid (dU len (64*n+8*ix) 8=true)) (hk:Hid (bH rv lv=0)):
 Calls Tryz.prog 95 #[.slice a len cap,VU n,VI lv,VU va] w fun e w'=>me w.heap.size w' e (2,lv,0,[])∧Bw w w':=by
 have hz:=hB.1;obtain ⟨v1,Ev1,n1,H8,l1⟩:=al1 w #[VI 0,VI 0,VU 0,SN] 138;go_enter Tryz.func95,Tryz.ntmps95;go_wp2_with fail;rw [Ev1.out];clear Ev1;refine (kN va lv v1 hv0 hv1 h0 h2).mono ?_;rintro e w' ⟨rfl,nq,rfl⟩;rw [hix.out];have n2:=below_drewN n1 nq;have H9:Hid ((v1.drewN nq).heap[w.heap.size]?=some (.cells #[VI 0,VI 0,VU 0,SN] 138 (0,0))):=H8;have l2:w.heap.size<(v1.drewN nq).heap.size:=l1;generalize v1.drewN nq=v2 at n2 H9 l2 |-;clear H8 l1 n1;go_wp2_with fail;refine (ie a len cap zs (64*n+8*ix) 8 v2 (hB.keep n2) hl hc hm (by omega) (by omega) (by omega)).mono ?_;rintro e v3 ⟨rfl,n3⟩;rw [hrv.out,hg.out];have n13:=bst n2 n3;have H10:Hid (v3.heap[w.heap.size]?=some (.cells #[VI 0,VI 0,VU 0,SN] 138 (0,0))):=ag H9.out n3 l2;have l3:w.heap.size<v3.heap.size:=ltl l2 n3.size;clear H9 n2 n3 l2;go_wp2_with fail;have a4:=fZ v3 #[Value.bool true,VU rv] 186;generalize v3.alloc (Obj.cells #[Value.bool true,VU rv] 186)=v4 at a4 |-;obtain ⟨l4,c4,n4⟩:=a4;have c41:v4.cell? (AD v3.heap.size 1)=some (VU rv):=c4 1;have n14:=bst n13 n4;have H11:Hid (v4.heap[w.heap.size]?=some (.cells #[VI 0,VI 0,VU 0,SN] 138 (0,0))):=ag H10.out n4 l3;clear c4 n13 n4 H10;refine (gu rv lv v4 hrb.1 hrb.2 (by omega) (by omega)).mono ?_;rintro e w' ⟨rfl,nk,rfl⟩;rw [hk.out];have n15:Bw w (v4.drewN nk):=below_drewN n14 nk;have c51:(v4.drewN nk).cell? (AD v3.heap.size 1)=some (VU rv):=c41;have H12:Hid ((v4.drewN nk).heap[w.heap.size]?=some (.cells #[VI 0,VI 0,VU 0,SN] 138 (0,0))):=H11;have l5:v3.heap.size<(v4.drewN nk).heap.size:=l4;generalize v4.drewN nk=v5 at n15 c51 H12 l5 |-;clear n14 c41 H11 l4;obtain ⟨⟨d0,d1,d2,d3⟩,e0,e1,e2,e3⟩:=ay H12.out;go_wp2_with fail;refine bodyPost_ret (v:=.agg #[VI 2,VI lv,VU 0,SN]) (by simp [results,Tryz.results95,go_sem,d0,d1,d2,d3]) rfl ⟨⟨none,0,rfl,RowC.nil _ _ _,fun _=>⟨rfl,rfl⟩,(by intro q hq;cases hq),Nat.zero_le _⟩,?_⟩;exact qr n15 nle _ _ _ _
theorem qU (a:Option Addr) (len cap:Nat) (zs:List Int) (va lv n ix rv:Int) (w:World) (hl:len<=1048576) (hc:len<=cap) (hm:cap<=9223372036854775807) (hv0:0<=va) (hv1:va<=18446744073709551615)
 (h0:0<=lv) (h2:lv<=2) (hn0:0<=n) (hn1:n<17592186044416) (hB:Byt w a len zs) (hix:Hid (dF va lv=ix)) (hib:0<=ix∧ix<=7) (hrv:Hid (rdV zs (64*n+8*ix) 8=rv)) (hrb:0<=rv∧rv<=18446744073709551615)
 (hg:Hid (dU len (64*n+8*ix) 8=true)) (hk:Hid (bH rv lv=2)):
 Calls Tryz.prog 95 #[.slice a len cap,VU n,VI lv,VU va] w fun e w'=>me w.heap.size w' e (1,lv,rv,[(lv,64*n+8*ix,rv)])∧Bw w w':=by
 have hz:=hB.1;obtain ⟨v1,Ev1,n1,H8,l1⟩:=al1 w #[VI 0,VI 0,VU 0,SN] 138;go_enter Tryz.func95,Tryz.ntmps95;go_wp2_with fail;rw [Ev1.out];clear Ev1;refine (kN va lv v1 hv0 hv1 h0 h2).mono ?_;rintro e w' ⟨rfl,nq,rfl⟩;rw [hix.out];have n2:=below_drewN n1 nq;have H9:Hid ((v1.drewN nq).heap[w.heap.size]?=some (.cells #[VI 0,VI 0,VU 0,SN] 138 (0,0))):=H8;have l2:w.heap.size<(v1.drewN nq).heap.size:=l1;generalize v1.drewN nq=v2 at n2 H9 l2 |-;clear H8 l1 n1;go_wp2_with fail;refine (ie a len cap zs (64*n+8*ix) 8 v2 (hB.keep n2) hl hc hm (by omega) (by omega) (by omega)).mono ?_;rintro e v3 ⟨rfl,n3⟩;rw [hrv.out,hg.out];have n13:=bst n2 n3;have H10:Hid (v3.heap[w.heap.size]?=some (.cells #[VI 0,VI 0,VU 0,SN] 138 (0,0))):=ag H9.out n3 l2;have l3:w.heap.size<v3.heap.size:=ltl l2 n3.size;clear H9 n2 n3 l2;go_wp2_with fail;have a4:=fZ v3 #[Value.bool true,VU rv] 186;generalize v3.alloc (Obj.cells #[Value.bool true,VU rv] 186)=v4 at a4 |-;obtain ⟨l4,c4,n4⟩:=a4;have c41:v4.cell? (AD v3.heap.size 1)=some (VU rv):=c4 1;have n14:=bst n13 n4;have H11:Hid (v4.heap[w.heap.size]?=some (.cells #[VI 0,VI 0,VU 0,SN] 138 (0,0))):=ag H10.out n4 l3;clear c4 n13 n4 H10;refine (gu rv lv v4 hrb.1 hrb.2 (by omega) (by omega)).mono ?_;rintro e w' ⟨rfl,nk,rfl⟩;rw [hk.out];have n15:Bw w (v4.drewN nk):=below_drewN n14 nk;have c51:(v4.drewN nk).cell? (AD v3.heap.size 1)=some (VU rv):=c41;have H12:Hid ((v4.drewN nk).heap[w.heap.size]?=some (.cells #[VI 0,VI 0,VU 0,SN] 138 (0,0))):=H11;have l5:v3.heap.size<(v4.drewN nk).heap.size:=l4;generalize v4.drewN nk=v5 at n15 c51 H12 l5 |-;clear n14 c41 H11 l4;obtain ⟨⟨d0,d1,d2,d3⟩,e0,e1,e2,e3⟩:=ay H12.out;have l6:w.heap.size<v5.heap.size:=Nat.lt_trans l3 l5;have ne1:v5.heap.size≠v3.heap.size:=by omega
 have ne2:w.heap.size≠v3.heap.size:=by omega
 have ne3:v3.heap.size≠w.heap.size:=by omega
 go_wp2;go_region_held3 (fun w'=>w'.cell? (AD v3.heap.size 1)=some (VU rv)) (go_keep)
  (first | (go_at_call 133;refine (uv _ _ _ _).mono ?_;rintro e w' ⟨rfl,rfl⟩))
 go_wp2_with fail;refine bodyPost_ret (v:=.agg #[VI 1,VI lv,VU rv,SL v5.heap.size 1 1]) (by simp [results,Tryz.results95,go_sem,d0,d1,d2,d3,l6]) rfl
  ⟨⟨some (AD v5.heap.size 0),1,rfl,Eg _ _ (by simp [World.setCell]) _ 1 3 (dc [(lv,64*n+8*ix,rv)]) (uu _) (by decide),(by intro h;cases h),(by intro q hq;cases hq;exact ⟨rfl,Nat.le_of_lt l6⟩),nle⟩,?_⟩
 exact ((qr n15 nle _ _ _ _).alloc (by simpa [World.setCell] using n15.size) _).drew
structure Lies (v:World) where
 w:World
 h:Bw v w
theorem dp (v:World):Nonempty (Lies v):=⟨⟨v,brf⟩⟩
theorem cW {P:Program} {f:FuncId} {args:Array Value} {v:World} (u:Lies v) {x:Value} (h:Calls P f args u.w fun e w'=>e=.returned x∧Below u.w.heap.size u.w w'):
 Calls P f args u.w fun e w''=>e=.returned x∧∃u':Lies v,w''=u'.w:=
 h.mono fun e w' ⟨he,hb⟩=>⟨he,⟨w',bst u.h hb⟩,rfl⟩
theorem ke {P:Program} {f:FuncId} {args:Array Value} {v:World} (u:Lies v) {x:Value} (h:Calls P f args u.w fun e w'=>e=.returned x∧w'=u.w):
 Calls P f args u.w fun e w''=>e=.returned x∧∃u':Lies v,w''=u'.w:=
 h.mono fun e w' ⟨he,hb⟩=>⟨he,u,hb⟩
theorem uh {P:Program} {f:FuncId} {args:Array Value} {v:World} (u:Lies v) {x:Value} (h:Calls P f args u.w fun e w'=>e=.returned x∧∃n,w'=u.w.drewN n):
 Calls P f args u.w fun e w''=>e=.returned x∧∃u':Lies v,w''=u'.w:=
 h.mono fun e w' ⟨he,n,hb⟩=>⟨he,⟨w',by rw [hb];exact below_drewN u.h n⟩,rfl⟩
theorem aC {v:World} {b o:Nat} {x:Value} (hc:v.cell? (AD b o)=some x) (hb:b<v.heap.size) (u:Lies v):u.w.cell? (AD b o)=some x:=Below.cell2 u.h hc hb
theorem bS {P:Program} {id:Nat} {Q:Exit->Act->World->Prop} {a:Act} {w:World} {l:List Oper} (hm:P.follows .mixedOrders=true) (hB:Region.lexB .any l.toArray=true)
 (h:wpQuiet P l.toArray (fun w'=>∃u:Lies w,w'=u.w) (fun a'=>∀w',(∃u:Lies w,w'=u.w)->Q .normal a' w') l a):(Code.region id l.toArray true).wp P Q a w:=
 wp_region_quiet (C:=fun w'=>∃u:Lies w,w'=u.w) hm hB ⟨⟨w.drew,(brf).drew⟩,rfl⟩ (by simpa using h)
theorem ms (n:Nat):∀(x:Int) (w:World),n<=8->0<=x->x<=18446744073709551615->
 Calls Tryz.prog 97 #[VU x,VI n] w fun e w'=>
  ∃g cap,e=.returned (SL g n cap)∧OwnB 5 w' w.heap.size g n cap (cL x n)∧Bw w w':=by
 induction n with
 | zero=>
  intro x w hn h0 h1;go_enter Tryz.func97,Tryz.ntmps97;go_wp2;go_ret;exact ⟨_,_,rfl,OwnB.new _ _ [] 0 rfl (by decide),(brf).alloc nle _⟩
 | succ n ih=>
  intro x w hn h0 h1;have hp:(((n+1:Nat):Int) == 0)=false:=by simp;omega
  have IH:Hid (∀(x:Int) (w:World),n<=8->0<=x->x<=18446744073709551615->
   Calls Tryz.prog 97 #[VU x,VI n] w fun e w'=>
    ∃g cap,e=.returned (SL g n cap)∧OwnB 5 w' w.heap.size g n cap (cL x n)∧Bw w w'):=ih
  clear ih;go_enter Tryz.func97,Tryz.ntmps97;go_wp2_with fail;have o1:=OwnB.new 5 w [x%256] 1 rfl (by decide);have n1:Bw w (w.alloc (Obj.cells #[Value.int IntKind.u8 (x%256)] 5)):=(brf).alloc nle _;simp only [List.map_cons,List.map_nil] at o1;generalize w.alloc (Obj.cells #[Value.int IntKind.u8 (x%256)] 5)=v1 at o1 n1 |-;refine (IH.out (x/256) v1 (by omega) (by omega) (by omega)).mono ?_;rintro e v2 ⟨g,cap,rfl,o2,n2⟩;have o3:=o1.keep n2 o1.facts.2.2.1;have f2:=o2.facts;have n3:=bst n1 n2;have hlt:=o3.facts.2.2.1;have b2:=o2.byt (df (kL n _));clear o1 n1 n2 IH;go_wp2_with (at_builtin;refine fk _ rfl (.tmp 11) (.tmp 16) 22 rfl 5 Tryz.underlying22 Tryz.infoB w.heap.size _ _ _ _ rfl o3 g 0 n cap (cL (x/256) n) rfl b2 (by omega) _ _ n3 nle ?_;intro g' cap' v4 o4 n4);go_ret;rw [Nat.add_comm 1 n] at o4;exact ⟨g',cap',zG (Nat.add_comm 1 n),o4,n4⟩
theorem Bl (b off len cap k g o n capb:Nat) (zs ys:List Int) (w:World) (hz:Byt w (some (AD b off)) len zs) (hy:Byt w (some (AD g o)) n ys) (hl:len<=1048576) (hk:k+n<=len) (hc:len<=cap) (hm:cap<=9223372036854775807):
 Calls Tryz.prog 160 #[.slice (some (AD b off)) len cap,VI k,.slice (some (AD g o)) n capb] w fun e w'=>
  ∃g' cap',e=.returned (SL g' len cap')∧OwnB 5 w' w.heap.size g' len cap' (zs.take k++ys++zs.drop (k+n))∧Bw w w':=by
 have hzl:=hz.1;have hyl:=hy.1;have o1:=OwnB.new 5 w [] 0 rfl (by decide);have n1:Bw w (w.alloc (Obj.cells #[] 5)):=(brf).alloc nle _;simp only [List.map_nil] at o1;have x1:=(hz.take k (by omega)).keep n1;have fin:∀(a:Option Addr),(k+n<len->a=some ⟨b,off+(k+n),none⟩)->∀v:World,Bw w v->Byt v a (len-(k+n)) (zs.drop (k+n)):=fun a ha v hv=>
  (hz.drop (k+n) (len-(k+n)) hk rfl a ha).keep hv
 have FIN:Hid _:=fin;have hlen:k+n+(len-(k+n))=len:=by omega
 have HL:=hid hlen;clear fin hlen;by_cases hcc:cap=k+n
 ·subst hcc;go_enter Tryz.func160,Tryz.ntmps160;go_wp2_with (first
   | (at_builtin;refine fk _ rfl (.tmp 8) (.tmp 11) 22 rfl 5 Tryz.underlying22 Tryz.infoB w.heap.size _ _ _ _ rfl o1 b off k _ (zs.take k) rfl x1 (by omega) _ _ n1 nle ?_;intro g2 cap2 v2 o2 n2;rw [Nat.zero_add] at o2 |-;have y2:=hy.keep n2;clear o1 n1 x1)
   | (at_builtin;refine fk _ rfl (.tmp 13) (.tmp 14) 22 rfl 5 Tryz.underlying22 Tryz.infoB w.heap.size _ _ _ _ rfl o2 g o n _ ys rfl y2 (by omega) _ _ n2 nle ?_;intro g3 cap3 v3 o3 n3;clear o2 n2 y2 hz hy)
   | (at_builtin;refine fk _ rfl (.tmp 16) (.tmp 22) 22 rfl 5 Tryz.underlying22 Tryz.infoB w.heap.size _ _ _ _ rfl o3 b (off) (len-(k+n)) _ (zs.drop (k+n)) rfl (FIN.out _ (fun h=>by omega) _ n3) (by omega) _ _ n3 nle ?_;intro g4 cap4 v4 o4 n4;clear o3 n3))
  go_ret;rw [HL.out] at o4;exact ⟨g4,cap4,zG (by omega),o4,n4⟩
 ·have hcl:k+n<cap:=by omega
  clear hcc;go_enter Tryz.func160,Tryz.ntmps160;go_wp2_with (first
   | (at_builtin;refine fk _ rfl (.tmp 8) (.tmp 11) 22 rfl 5 Tryz.underlying22 Tryz.infoB w.heap.size _ _ _ _ rfl o1 b off k _ (zs.take k) rfl x1 (by omega) _ _ n1 nle ?_;intro g2 cap2 v2 o2 n2;rw [Nat.zero_add] at o2 |-;have y2:=hy.keep n2;clear o1 n1 x1)
   | (at_builtin;refine fk _ rfl (.tmp 13) (.tmp 14) 22 rfl 5 Tryz.underlying22 Tryz.infoB w.heap.size _ _ _ _ rfl o2 g o n _ ys rfl y2 (by omega) _ _ n2 nle ?_;intro g3 cap3 v3 o3 n3;clear o2 n2 y2 hz hy)
   | (at_builtin;refine fk _ rfl (.tmp 16) (.tmp 22) 22 rfl 5 Tryz.underlying22 Tryz.infoB w.heap.size _ _ _ _ rfl o3 b (off+(k+n)) (len-(k+n)) _ (zs.drop (k+n)) rfl (FIN.out _ (fun _=>rfl) _ n3) (by omega) _ _ n3 nle ?_;intro g4 cap4 v4 o4 n4;clear o3 n3))
  go_ret;rw [HL.out] at o4;exact ⟨g4,cap4,zG (by omega),o4,n4⟩
theorem rD (a:Option Addr) (len cap:Nat) (addr n:Int) (w:World) (hl:len<=1048576) (h0:0<=addr) (h1:addr<=18446744073709551615) (h2:0<=n) (h3:n<=18446744073709551615):
 Calls Tryz.prog 82 #[.slice a len cap,VU addr,VU n] w fun e w'=>e=.returned (.bool (fR len addr n))∧w'=w:=by
 by_cases hh:n<=(len:Int);all_goals
  go_enter Tryz.func82,Tryz.ntmps82;go_wp2;all_goals
   go_ret;exact ⟨by simp [fR];try omega,rfl⟩
theorem ul (a:Option Addr) (len cap:Nat) (addr n:Int) (w:World) (hl:len<=1048576) (h0:0<=addr) (h1:addr<=18446744073709551615) (h3:n<=9223372036854775807):
 Calls Tryz.prog 222 #[.slice a len cap,VU addr,VI n] w fun e w'=>e=.returned (.bool (dU len addr n))∧w'=w:=by
 by_cases hn:n=1∨n=2∨n=4∨n=8
 ·rw [<-mM len addr n hn];rcases hn with rfl | rfl | rfl | rfl;all_goals
   go_enter Tryz.func222,Tryz.ntmps222;go_wp2_with (go_at_call 82;refine (rD _ _ _ _ _ _ hl h0 h1 (by omega) (by omega)).mono ?_;rintro e w' ⟨rfl,rfl⟩);go_ret;exact ⟨rfl,rfl⟩
 ·have n1:(n == 1)=false:=by simp;omega
  have n2:(n == 2)=false:=by simp;omega
  have n4:(n == 4)=false:=by simp;omega
  have n8:(n == 8)=false:=by simp;omega
  have hg:dU len addr n=false:=by simp [dU];omega
  rw [hg];clear hn hg;go_enter Tryz.func222,Tryz.ntmps222;go_wp2;go_ret;exact ⟨rfl,rfl⟩
theorem mN (b off len cap k:Nat) (zs:List Int) (w:World) (h:Cel w b off len zs) (hk:k<len) (hl:len<=1048576):
 Calls Tryz.prog 142 #[.slice (some (AD b off)) len cap,VU k] w fun e w'=>e=.returned (VU (zs[k]?.getD 0))∧w'=w:=by
 have hcell:=h.2.2 k hk;have hb:=h.2.1 k;obtain ⟨z,hz'⟩:∃z,z=zs[k]?.getD 0:=⟨_,rfl⟩;rw [<-hz'] at hcell hb |-;clear hz' h;go_enter Tryz.func142,Tryz.ntmps142;go_wp2;go_ret;exact ⟨rfl,rfl⟩
theorem um (b off len cap k:Nat) (zs:List Int) (w:World) (h:Cel w b off len zs) (hk:k+2<=len) (hl:len<=1048576):
 Calls Tryz.prog 225 #[.slice (some (AD b off)) len cap,VU k] w fun e w'=>e=.returned (VU (num ((zs.drop k).take 2)))∧w'=w:=by
 have hb1:=h.2.1 k;have hb2:=h.2.1 (k+1);have HF:Hid (bits .or .u64 (zs[k]?.getD 0) (zs[k+1]?.getD 0*256)=num ((zs.drop k).take 2)):=by
  rw [Eb zs k (by have:=h.1;omega)];exact fm 8 256 _ _ rfl hb1.1 (by omega) hb2.1 (by omega) (by omega)
 go_enter Tryz.func225,Tryz.ntmps225;go_wp2_with fail;refine (mN b off len cap k zs w h (by omega) hl).mono ?_;rintro e w' ⟨rfl,rfl⟩;go_wp2_with fail;rw [show ((k:Int)+1)=((k+1:Nat):Int) by omega];refine (mN b off len cap (k+1) zs _ h (by omega) hl).mono ?_;rintro e w' ⟨rfl,rfl⟩;go_wp2;go_ret;exact ⟨dW HF.out,rfl⟩
theorem un (b off len cap k:Nat) (zs:List Int) (w:World) (h:Cel w b off len zs) (hk:k+4<=len) (hl:len<=1048576):
 Calls Tryz.prog 224 #[.slice (some (AD b off)) len cap,VU k] w fun e w'=>e=.returned (VU (num ((zs.drop k).take 4)))∧w'=w:=by
 have hb1:=fW zs k 2 h.2.1;have hb2:=fW zs (k+2) 2 h.2.1;simp at hb1 hb2;have HF:Hid (bits .or .u64 (num ((zs.drop k).take 2)) (num ((zs.drop (k+2)).take 2)*65536)=num ((zs.drop k).take 4)):=by
  rw [xd zs k 2 (by have:=h.1;omega)];exact fm 16 65536 _ _ rfl hb1.1 (by omega) hb2.1 (by omega) (by omega)
 go_enter Tryz.func224,Tryz.ntmps224;go_wp2_with fail;refine (um b off len cap k zs w h (by omega) hl).mono ?_;rintro e w' ⟨rfl,rfl⟩;go_wp2_with fail;rw [show ((k:Int)+2)=((k+2:Nat):Int) by omega];refine (um b off len cap (k+2) zs _ h (by omega) hl).mono ?_;rintro e w' ⟨rfl,rfl⟩;go_wp2;go_ret;exact ⟨dW HF.out,rfl⟩
theorem AT (b off len cap k:Nat) (zs:List Int) (w:World) (h:Cel w b off len zs) (hk:k+8<=len) (hl:len<=1048576):
 Calls Tryz.prog 223 #[.slice (some (AD b off)) len cap,VU k] w fun e w'=>e=.returned (VU (num ((zs.drop k).take 8)))∧w'=w:=by
 have hb1:=fW zs k 4 h.2.1;have hb2:=fW zs (k+4) 4 h.2.1;simp at hb1 hb2;have HF:Hid (bits .or .u64 (num ((zs.drop k).take 4)) (num ((zs.drop (k+4)).take 4)*4294967296)=num ((zs.drop k).take 8)):=by
  rw [xd zs k 4 (by have:=h.1;omega)];exact fm 32 4294967296 _ _ rfl hb1.1 (by omega) hb2.1 (by omega) (by omega)
 go_enter Tryz.func223,Tryz.ntmps223;go_wp2_with fail;refine (un b off len cap k zs w h (by omega) hl).mono ?_;rintro e w' ⟨rfl,rfl⟩;go_wp2_with fail;rw [show ((k:Int)+4)=((k+4:Nat):Int) by omega];refine (un b off len cap (k+4) zs _ h (by omega) hl).mono ?_;rintro e w' ⟨rfl,rfl⟩;go_wp2;go_ret;exact ⟨dW HF.out,rfl⟩
end Go.Proofs.YtkenjknmfhoppaaGreat
