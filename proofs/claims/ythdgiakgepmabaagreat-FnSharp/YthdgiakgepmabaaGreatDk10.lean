import Derived.Maps.RangeWalk
import Derived.Lib.SlMapFilter
import Derived.DeepKeys4
import Derived.Test.YthdgiakgepmabaaGreatDk07
namespace Go.Proofs.YthdgiakgepmabaaGreat
open Go.RowKit
set_option linter.unusedVariables false
set_option maxHeartbeats 6400000
set_option maxRecDepth 20000
abbrev cU:=Int × Int × Int × Bool
def jU (level tag asid:Int) (glob:Bool):cU:=(level,tag,if glob=true then 0 else asid,glob)
def tE (g:ay):cU:=jU g.2.2.2.1 g.1 g.2.1 g.2.2.1
def dR:List (cU × aP)->cU->Option aP
 | [],_=>none
 | e::es,k=>if e.1=k then some e.2 else dR es k
def oT:List (cU × aP)->cU->aP->List (cU × aP)
 | [],k,r=>[(k,r)]
 | e::es,k,r=>if e.1=k then (k,r)::es else e::oT es k r
def mX (m:List (cU × aP)) (cov:cU->Bool):List (cU × aP):=m.filter fun e=>!cov e.1
theorem jr:∀(m:List (cU × aP)) (k:cU) (r:aP) (k':cU),dR (oT m k r) k'=if k=k' then some r else dR m k'
 | [],k,r,k'=>by simp [oT,dR]
 | e::es,k,r,k'=>by
  unfold oT;by_cases h:e.1=k
  ·rw [if_pos h];simp only [dR];by_cases h2:k=k'
   ·rw [if_pos h2,if_pos h2]
   ·rw [if_neg h2,if_neg h2,if_neg (by rw [h];exact h2)]
  ·rw [if_neg h];simp only [dR,jr es k r k'];by_cases h2:k=k'
   ·rw [if_pos h2,if_pos h2,if_neg (by rw [<-h2];exact h)]
   ·rw [if_neg h2,if_neg h2]
theorem js (cov:cU->Bool):∀(m:List (cU × aP)) (k:cU),dR (mX m cov) k=if cov k=true then none else dR m k
 | [],k=>by simp [mX,dR]
 | e::es,k=>by
  have ih:=js cov es k;unfold mX at ih |-;rw [List.filter_cons];by_cases h:e.1=k
  ·subst h;by_cases hc:cov e.1=true
   ·rw [if_neg (by simp [hc]),ih,if_pos hc,if_pos hc]
   ·rw [if_pos (by simpa using hc)];simp only [dR];simp [hc]
  ·by_cases hc:cov e.1=true
   ·rw [if_neg (by simp [hc]),ih];simp only [dR,if_neg h]
   ·rw [if_pos (by simpa using hc)];simp only [dR,if_neg h];exact ih
structure RelG (gs:List ay) (m:List (cU × aP)):Prop where
 into:∀g∈gs,dR m (tE g)=some g.2.2.2
 back:∀k r,dR m k=some r->∃g∈gs,tE g=k∧g.2.2.2=r
 level:∀g∈gs,0<=g.2.2.2.1∧g.2.2.2.1<=2
theorem Dn:RelG [] []:=⟨fun _ h=>(by cases h),fun _ _ h=>(by simp [dR] at h),fun _ h=>(by cases h)⟩
def jt (m:List (cU × aP)) (recs:List aP) (va asid level:Int) (glob:Bool):Bool:=
 match dR m (jU level (dP va level) asid glob) with
 | none=>false
 | some r=>!decide (r∈recs)
def fW (m:List (cU × aP)) (recs:List aP) (va asid:Int):Bool:=
 ([0,1,2]:List Int).all fun l=>!jt m recs va asid l false && !jt m recs va asid l true
theorem Do {g:ay} {va asid:Int} (h:eu g va asid=true):tE g=jU g.2.2.2.1 (dP va g.2.2.2.1) asid g.2.2.1:=by
 simp only [eu,Bool.and_eq_true,beq_iff_eq,Bool.or_eq_true] at h;obtain ⟨h1,h2⟩:=h;unfold tE;rw [h1];rcases h2 with h2 | h2
 ·simp [jU,h2]
 ·rw [h2]
theorem xz {g:ay} {va asid level:Int} {glob:Bool} (h:tE g=jU level (dP va level) asid glob):eu g va asid=true∧g.2.2.2.1=level∧g.2.2.1=glob:=by
 simp only [tE,jU,Prod.mk.injEq] at h;obtain ⟨h1,h2,h3,h4⟩:=h;refine ⟨?_,h1,h4⟩;simp only [eu,Bool.and_eq_true,beq_iff_eq,Bool.or_eq_true];refine ⟨by rw [h2,h1],?_⟩;cases hg:g.2.2.1
 ·right;rw [hg] at h3 h4;rw [<-h4] at h3;simpa using h3
 ·exact .inl rfl
theorem xA {gs:List ay} {m:List (cU × aP)} (R:RelG gs m) (h:HartM) (va:Int):fW m (bD h.mem h.satp va).2.2.2 va (aN h.satp)=kS gs h va:=by
 apply Bool.eq_iff_iff.2;constructor
 ·intro hw;unfold kS;rw [List.all_eq_true];intro g hg;cases hf:eu g va (aN h.satp)
  ·rfl
  ·simp only [Bool.not_true,Bool.false_or];have h1:=R.into g hg;rw [Do hf] at h1;have hl:=R.level g hg;have hm:g.2.2.2.1∈([0,1,2]:List Int):=by
    have:g.2.2.2.1=0∨g.2.2.2.1=1∨g.2.2.2.1=2:=by omega
    rcases this with h | h | h <;> rw [h] <;> decide
   have h2:=List.all_eq_true.1 hw _ hm;simp only [Bool.and_eq_true,Bool.not_eq_true'] at h2;have h3:jt m (bD h.mem h.satp va).2.2.2 va (aN h.satp) g.2.2.2.1 g.2.2.1=false:=by
    cases hb:g.2.2.1
    ·exact h2.1
    ·exact h2.2
   unfold jt at h3;rw [h1] at h3;simpa using h3
 ·intro hl;unfold fW;rw [List.all_eq_true];intro l hlm;have:∀b,jt m (bD h.mem h.satp va).2.2.2 va (aN h.satp) l b=false:=by
   intro b;unfold jt;cases hf:dR m (jU l (dP va l) (aN h.satp) b) with
   | none=>rfl
   | some r=>
    obtain ⟨g,hg,hk,hr⟩:=R.back _ _ hf;have h1:=List.all_eq_true.1 hl g hg;rw [(xz hk).1] at h1;simp only [Bool.not_true,Bool.false_or] at h1;rw [hr] at h1;simpa using h1
  rw [this,this];rfl
theorem xB (zs:List Int) (va:Int):∀(l:Nat) (n:Int),(∀r∈(bu zs va l n).2.2.2,0<=r.1∧r.1<=l)∧∀r∈(bu zs va l n).2.2.2,∀r'∈(bu zs va l n).2.2.2,r.1=r'.1->r=r':=by
 intro l
 induction l with
 | zero=>
  intro n;unfold bu;split
  ·simp
  ·split
   ·simp
   ·split
    ·simp
    ·simp
 | succ k ih=>
  intro n;unfold bu;split
  ·simp
  ·split
   ·simp
   ·split
    ·simp;omega
    ·generalize rdV zs (64*n+8*da va (k+1:Nat)) 8=x;obtain ⟨i1,i2⟩:=ih (dA x);simp only [List.mem_cons];refine ⟨?_,?_⟩
     ·rintro r (rfl | hr)
      ·simp only;omega
      ·have:=i1 r hr;omega
     ·rintro r (rfl | hr) r' (rfl | hr') he
      ·rfl
      ·have:=i1 r' hr';simp only at he;omega
      ·have:=i1 r hr;simp only at he;omega
      ·exact i2 r hr r' hr' he
theorem xC (zs:List Int) (root va:Int):(∀r∈(bD zs root va).2.2.2,0<=r.1∧r.1<=2)∧∀r∈(bD zs root va).2.2.2,∀r'∈(bD zs root va).2.2.2,r.1=r'.1->r=r':=by
 unfold bD;split
 ·simp
 ·exact xB zs va 2 _
def jw (va asid:Int):List aP->List (cU × aP)->List (cU × aP)
 | [],m=>m
 | r::rs,m=>jw va asid rs (oT m (jU r.1 (dP va r.1) asid (bJ r.2.2 32)) r)
def fA (h:HartM) (kind:Int) (rs:List aP):List aP:=rs.filter fun r=>aU r.2.2 r.1 == 1 || cG r.2.2 kind h.mode h.sum h.mxr
theorem si (h:HartM) (kind va:Int) (ws:List aP) (hl:∀r∈ws,0<=r.1∧r.1<=2) (hu:∀r∈ws,∀r'∈ws,r.1=r'.1->r=r'):∀(rs:List aP) (gs:List ay) (m:List (cU × aP)),(∀r∈rs,r∈ws)->RelG gs m->(∀g∈gs,eu g va (aN h.satp)=true->g.2.2.2∈ws)->RelG (dJ h kind va rs gs) (jw va (aN h.satp) (fA h kind rs) m)
 | [],gs,m,_,R,_=>R
 | r::rs,gs,m,hs,R,hf=>by
  have hr:=hs r (List.mem_cons_self ..);have hs':∀x∈rs,x∈ws:=fun x hx=>hs x (List.mem_cons_of_mem _ hx);rw [dJ,fA,List.filter_cons];by_cases hc:(aU r.2.2 r.1 == 1 || cG r.2.2 kind h.mode h.sum h.mxr)=true
  ·rw [if_pos hc,if_pos hc];have hk:tE (fj va h.satp r)=jU r.1 (dP va r.1) (aN h.satp) (bJ r.2.2 32):=rfl;have hfit:eu (fj va h.satp r) va (aN h.satp)=true:=by simp [eu,fj]
   have hmem:∀g,g∈qc gs (fj va h.satp r)↔g∈gs∨g=fj va h.satp r:=by
    intro g;unfold qc;split
    ·rename_i hin;constructor
     ·exact .inl
     ·rintro (h | rfl)
      ·exact h
      ·exact hin
    ·simp
   refine si h kind va ws hl hu rs _ _ hs' ⟨?_,?_,?_⟩ ?_
   ·intro g hg;rw [jr];rcases (hmem g).1 hg with hg | rfl
    ·by_cases he:jU r.1 (dP va r.1) (aN h.satp) (bJ r.2.2 32)=tE g
     ·rw [if_pos he];have f:=xz he.symm;rw [hu _ (hf g hg f.1) _ hr f.2.1]
     ·rw [if_neg he];exact R.into g hg
    ·rw [if_pos hk.symm];rfl
   ·intro k x hx;rw [jr] at hx;split at hx
    ·rename_i he;exact ⟨_,(hmem _).2 (.inr rfl),by rw [<-he];rfl,by simpa [fj] using hx⟩
    ·obtain ⟨g,hg,h1,h2⟩:=R.back k x hx;exact ⟨g,(hmem g).2 (.inl hg),h1,h2⟩
   ·intro g hg;rcases (hmem g).1 hg with hg | rfl
    ·exact R.level g hg
    ·exact hl r hr
   ·intro g hg hfi;rcases (hmem g).1 hg with hg | rfl
    ·exact hf g hg hfi
    ·exact hr
  ·rw [if_neg hc,if_neg hc];exact si h kind va ws hl hu rs gs m hs' R hf
theorem Br {gs:List ay} {m:List (cU × aP)} (R:RelG gs m) (h:HartM) (kind va:Int) (hw:kS gs h va=true):RelG (dJ h kind va (bD h.mem h.satp va).2.2.2 gs) (jw va (aN h.satp) (fA h kind (bD h.mem h.satp va).2.2.2) m):=by
 obtain ⟨hl,hu⟩:=xC h.mem h.satp va;refine si h kind va _ hl hu _ gs m (fun _ h=>h) R fun g hg hf=>?_;have:=List.all_eq_true.1 hw g hg;rw [hf] at this;simpa using this
def fK (f:FenceM) (k:cU):Bool:=eD f k.1 k.2.1 k.2.2.1 k.2.2.2
theorem uh (f:FenceM) (g:ay):fK f (tE g)=eD f g.2.2.2.1 g.1 g.2.1 g.2.2.1:=by
 unfold fK tE jU;cases hg:g.2.2.1
 ·simp
 ·simp [eD]
theorem Bt {gs:List ay} {m:List (cU × aP)} (R:RelG gs m) (f:FenceM):RelG (dt gs f) (mX m (fK f)):=by
 refine ⟨?_,?_,?_⟩
 ·intro g hg;simp only [dt,List.mem_filter,Bool.not_eq_true'] at hg;rw [js,uh,hg.2];simp only [Bool.false_eq_true,if_false];exact R.into g hg.1
 ·intro k r hr;rw [js] at hr;split at hr
  ·cases hr
  ·rename_i hc;obtain ⟨g,hg,h1,h2⟩:=R.back k r hr;refine ⟨g,?_,h1,h2⟩;simp only [dt,List.mem_filter,Bool.not_eq_true'];refine ⟨hg,?_⟩;rw [<-uh,h1];simpa using hc
 ·intro g hg;simp only [dt,List.mem_filter] at hg;exact R.level g hg.1
section
open Go.RowKit Go.Maps
abbrev jI (k:cU):Value:=.agg #[VI k.1,VU k.2.1,VU k.2.2.1,.bool k.2.2.2]
abbrev nm (r:aP):Value:=.agg #[VI r.1,VU r.2.1,VU r.2.2]
def wy (r:aP):DataW Unit:=.agg [.lit (.int .i64 r.1),.lit (.int .u64 r.2.1),.lit (.int .u64 r.2.2)]
def wB:Value->Option (DataW Unit × List MemPlace)
 | .agg ⟨[.int .i64 l,.int .u64 a,.int .u64 v]⟩=>some (wy (l,a,v),[])
 | _=>none
theorem Ae (r:aP):wB (nm r)=some (wy r,[]):=rfl
theorem wC {v:Value} {z:DataW Unit × List MemPlace} (h:wB v=some z):∃r,v=nm r∧z=(wy r,[]):=by
 unfold wB at h;split at h
 ·cases h;exact ⟨(_,_,_),rfl,rfl⟩
 ·cases h
theorem wD {r s:aP} (h:wy r=wy s):r=s:=by
 obtain ⟨a,b,c⟩:=r;obtain ⟨d,e,f⟩:=s;simp only [wy,DataW.agg.injEq,List.cons.injEq,DataW.lit.injEq,Lit.int.injEq,true_and,and_true] at h;obtain ⟨rfl,rfl,rfl⟩:=h;rfl
theorem wE {k l:cU} (h:jI k=jI l):k=l:=by
 obtain ⟨a,b,c,d⟩:=k;obtain ⟨e,f,g,i⟩:=l;simp only [jI,Value.agg.injEq,Array.mk.injEq,List.cons.injEq,Value.int.injEq,Value.bool.injEq,true_and,and_true] at h;obtain ⟨rfl,rfl,rfl,rfl⟩:=h;rfl
theorem lq:Keyed Tryz.prog 214:=Keyed.of_law (deep_law (m:=3) (by decide) (by kernel_rfl) (by kernel_rfl) (by kernel_rfl))
abbrev oH (P:Program) (v:Value):Option Lit:=keyOf P 214 v
theorem wF (a b c d:Value):oH Tryz.prog (.agg #[a,b,c,d])=((do
 let x <-Tryz.prog.keyLits Tryz.prog.types.size 2 [a]
 let y <-Tryz.prog.keyLits Tryz.prog.types.size 33 [b]
 let z <-Tryz.prog.keyLits Tryz.prog.types.size 33 [c]
 let u <-Tryz.prog.keyLits Tryz.prog.types.size 4 [d]
 pure [x,y,z,u]:Option (List (List Lit))).map List.flatten).map fun ls=>.string (keyBytes ls):=by
 kernel_rfl
theorem Af (v:Value):Tryz.prog.keyLits Tryz.prog.types.size 2 [v]=match v with | .int q n=>if q=.i64∧(Lit.int .i64 n).wf=true then some [.int .i64 n] else none | _=>none:=by
 cases v <;> kernel_rfl
theorem rD (v:Value):Tryz.prog.keyLits Tryz.prog.types.size 33 [v]=match v with | .int q n=>if q=.u64∧(Lit.int .u64 n).wf=true then some [.int .u64 n] else none | _=>none:=by
 cases v <;> kernel_rfl
theorem wG (v:Value):Tryz.prog.keyLits Tryz.prog.types.size 4 [v]=match v with | .bool b=>some [.bool b] | _=>none:=by
 cases v <;> kernel_rfl
theorem FX {k:cU} (h1:(Lit.int .i64 k.1).wf=true) (h2:(Lit.int .u64 k.2.1).wf=true) (h3:(Lit.int .u64 k.2.2.1).wf=true):∃L,oH Tryz.prog (jI k)=some L:=by
 have h:oH Tryz.prog (jI k)=_:=wF (VI k.1) (VU k.2.1) (VU k.2.2.1) (.bool k.2.2.2);rw [Af,rD,rD,wG] at h;simp only [h1,h2,h3] at h;exact ⟨_,h⟩
theorem wH {v:Value} {x:List Lit} (h:Tryz.prog.keyLits Tryz.prog.types.size 2 [v]=some x):∃n,v=VI n∧(Lit.int .i64 n).wf=true:=by
 rw [Af] at h;cases v <;> simp at h;obtain ⟨⟨rfl,hw⟩,_⟩:=h;exact ⟨_,rfl,hw⟩
theorem oI {v:Value} {x:List Lit} (h:Tryz.prog.keyLits Tryz.prog.types.size 33 [v]=some x):∃n,v=VU n∧(Lit.int .u64 n).wf=true:=by
 rw [rD] at h;cases v <;> simp at h;obtain ⟨⟨rfl,hw⟩,_⟩:=h;exact ⟨_,rfl,hw⟩
theorem uL {v:Value} {x:List Lit} (h:Tryz.prog.keyLits Tryz.prog.types.size 4 [v]=some x):∃b,v=.bool b:=by
 rw [wG] at h;cases v <;> simp at h;exact ⟨_,rfl⟩
theorem Ey {v:Value} {L:Lit} (h:oH Tryz.prog v=some L):∃k,v=jI k:=by
 have no:∀x,oH Tryz.prog x=none->oH Tryz.prog x≠some L:=fun x e e'=>by rw [e] at e';cases e'
 cases v
 case agg cs=>
  obtain ⟨l⟩:=cs;rcases l with _ | ⟨a,_ | ⟨b,_ | ⟨c,_ | ⟨d,_ | ⟨_,_⟩⟩⟩⟩⟩
  case cons.cons.cons.cons.nil=>
   have h2:=(wF a b c d).symm.trans h;simp only [Option.map_eq_some_iff,Option.bind_eq_bind,Option.bind_eq_some_iff] at h2;obtain ⟨_,⟨_,⟨_,hx,_,hy,_,hz,_,hu,_⟩,_⟩,_⟩:=h2;obtain ⟨n1,rfl,_⟩:=wH hx;obtain ⟨n2,rfl,_⟩:=oI hy;obtain ⟨n3,rfl,_⟩:=oI hz;obtain ⟨n4,rfl⟩:=uL hu;exact ⟨(n1,n2,n3,n4),rfl⟩
  all_goals exact absurd h (no _ (by kernel_rfl))
 all_goals exact absurd h (no _ (by kernel_rfl))
def RelD (D:DataW Unit) (m:List (cU × aP)):Prop:=
 ∀k L,oH Tryz.prog (jI k)=some L->has D L=(dR m k).isSome∧∀r,dR m k=some r->∀z,D.atKey L z=wy r
def Gx (m:List (cU × aP)):Prop:=∀k r,dR m k=some r->k.1=0∨k.1=1∨k.1=2
def GMap (w:World) (b n:Nat) (m:List (cU × aP)):Prop:=∃D:DataW Unit,w.ownsMap Tryz.prog 214 wB b n D∧RelD D m∧Gx m
theorem GMap.made (w:World):GMap (w.alloc (.map #[] 0)) w.heap.size 0 []:=⟨_,World.ownsMap_made _ _ _ _,fun k L _=>⟨rfl,fun r h=>by cases h⟩,fun k r h=>by cases h⟩
theorem GMap.mono {w:World} {b n n':Nat} {m:List (cU × aP)} (h:GMap w b n m) (hn:n<=n'):GMap w b n' m:=let ⟨D,o,r⟩:=h;⟨D,o.mono hn,r⟩
theorem GMap.lt {w:World} {b n:Nat} {m:List (cU × aP)} (h:GMap w b n m):b<w.heap.size:=let ⟨D,o,r⟩:=h;o.lt
theorem GMap.same {w w':World} {b n:Nat} {m:List (cU × aP)} (h:GMap w b n m) (hb:w'.heap[b]?=w.heap[b]?):GMap w' b n m:=by
 obtain ⟨D,⟨es,clock,h1,h2⟩,r⟩:=h;exact ⟨D,⟨es,clock,hb.trans h1,h2⟩,r⟩
theorem GMap.blk {w:World} {b n:Nat} {m:List (cU × aP)} (h:GMap w b n m):∃es c,w.heap[b]?=some (.map es c):=let ⟨D,⟨es,c,h1,_⟩,r⟩:=h;⟨es,c,h1⟩
theorem GMap.keep {w w':World} {b n:Nat} {m:List (cU × aP)} (h:GMap w b n m) (hb:Bw w w'):GMap w' b n m:=h.same (hb.block b h.lt)
theorem GMap.look {w:World} {b n:Nat} {m:List (cU × aP)} (h:GMap w b n m) {k:cU} {L:Lit} (hk:oH Tryz.prog (jI k)=some L):
 (Instr.lookup 63 (.map (some b)) (jI k) true).run Tryz.prog w=.ok (.tuple #[nm ((dR m k).getD (0,0,0)),.bool (dR m k).isSome]) w:=by
 obtain ⟨D,o,r,_⟩:=h;obtain ⟨v,ps,hrun,hv⟩:=o.look_ok (e:=118) lq Tryz.underlying63 (z:=nm (0,0,0)) (by kernel_rfl) (Ae _) hk;obtain ⟨rh,ra⟩:=r k L hk;rw [hrun,rh];obtain ⟨x,rfl,hx⟩:=wC hv;simp only [Prod.mk.injEq] at hx;cases hf:dR m k with
 | none=>
  rw [hf] at rh;rw [atKey_of_not_has rh] at hx;rw [wD hx.1.symm];rfl
 | some q=>
  rw [ra q hf] at hx;rw [wD hx.1.symm];rfl
theorem RelD.put {D:DataW Unit} {m:List (cU × aP)} (h:RelD D m) (hD:IsMap D) {k:cU} {L:Lit} (hk:oH Tryz.prog (jI k)=some L) (r:aP):RelD (D.put L (wy r)) (oT m k r):=by
 intro k' L' hk';rw [jr];by_cases e:k=k'
 ·subst e;obtain rfl:L=L':=Option.some.inj (hk.symm.trans hk');rw [if_pos rfl];exact ⟨has_put_same hD (lq.key hk) _,fun s hs z=>by cases hs;exact atKey_put_same hD (lq.key hk) _ _⟩
 ·rw [if_neg e];have hne:L'≠L:=fun e'=>e (wE (lq.inj hk (e' ▸ hk')));obtain ⟨a,b⟩:=h k' L' hk';exact ⟨(has_put_other hne _).trans a,fun s hs z=>(atKey_put_other hne _ _).trans (b s hs z)⟩
theorem GMap.put {w:World} {b n:Nat} {m:List (cU × aP)} (h:GMap w b n m) (hn:n<1048576) {k:cU} {L:Lit} (hk:oH Tryz.prog (jI k)=some L) (hl:k.1=0∨k.1=1∨k.1=2) (r:aP):
 ∃w',(Instr.mapUpdate 63 (.map (some b)) (jI k) (nm r)).run Tryz.prog w=.ok () w'∧GMap w' b (n+1) (oT m k r)∧w.grownBy w' (some b):=by
 obtain ⟨D,o,R,V⟩:=h;obtain ⟨w',h1,h2,h3⟩:=o.update (e:=118) lq Tryz.underlying63 (by unfold maxLen;omega) hk (Ae r);refine ⟨w',h1,⟨_,h2,R.put o.isMap hk r,fun k' s hs=>?_⟩,h3⟩;rw [jr] at hs;split at hs
 ·rename_i e;rw [<-e];exact hl
 ·exact V k' s hs
def Gy (cov:cU->Bool) (f:Lit->DataW Unit->Bool):Prop:=∀(k:cU) (L:Lit) (d:DataW Unit),oH Tryz.prog (jI k)=some L->f L d=cov k
theorem Ez (cov:cU->Bool):∃f,Gy cov f:=by
 refine ⟨fun L _=>@decide (∃k,oH Tryz.prog (jI k)=some L∧cov k=true) (Classical.propDecidable _),fun k L d hk=>?_⟩;cases hc:cov k
 ·simp only [decide_eq_false_iff_not];rintro ⟨k',h1,h2⟩;rw [wE (lq.inj h1 hk),hc] at h2;cases h2
 ·simp only [decide_eq_true_eq];exact ⟨k,hk,hc⟩
theorem RelD.del {D:DataW Unit} {m:List (cU × aP)} (h:RelD D m) (hD:IsMap D) (cov:cU->Bool) {f:Lit->DataW Unit->Bool} (hf:Gy cov f):RelD (Lib.deleteFuncD f D) (mX m cov):=by
 obtain ⟨es,rfl⟩:=hD;intro k L hk;obtain ⟨h1,h2⟩:=h k L hk;rw [js];have hs:∀p:Lit × DataW Unit,p.1.sameKey L=true->(!f p.1 p.2)=!cov k:=fun p hp=>by
  rw [WideAt.sameKey_eq hp,hf k L _ hk]
 have e1:has (Lib.deleteFuncD f (.map es)) L=(!cov k && has (.map es) L):=by
  show (es.filter fun p=>!f p.1 p.2).any (fun p=>p.1.sameKey L)=(!cov k && es.any fun p=>p.1.sameKey L);clear h1 h2 h
  induction es with
  | nil=>simp
  | cons p ps ih=>
   rw [List.filter_cons];by_cases hp:p.1.sameKey L=true
   ·have:=hs p hp;cases hc:cov k
    ·rw [hc] at this ih;rw [if_pos (by rw [this];rfl)];simp [hp]
    ·rw [hc] at this ih;rw [if_neg (by rw [this];simp),ih];simp
   ·split
    ·simp only [List.any_cons,hp,Bool.false_or];simpa [hp] using ih
    ·simpa [hp] using ih
 have e2:∀z,cov k=false->(Lib.deleteFuncD f (.map es)).atKey L z=DataW.atKey (.map es) L z:=by
  intro z hc;unfold Lib.deleteFuncD DataW.atKey;simp only;rw [find_filter_keep (fun p hp=>by rw [hs p hp,hc];rfl)]
 rw [e1,h1];cases hc:cov k
 ·simp only [Bool.not_false,Bool.true_and,Bool.false_eq_true,if_false,true_and];intro r hr z;rw [e2 z hc];exact h2 r hr z
 ·simp
end
def fB (e:EntM):List Value:=[VI e.level,VU e.tag,VU e.asid,.bool e.glob,.bool e.valid,VU e.pte]
def dv (e:EntM):Value:=.agg #[VI e.level,VU e.tag,VU e.asid,.bool e.glob,.bool e.valid,VU e.pte]
def aC:List EntM->List Value
 | []=>[]
 | e::r=>fB e++aC r
theorem ex:∀es:List EntM,(aC es).length=es.length*6
 | []=>rfl
 | e::r=>by simp [aC,fB,ex r];omega
theorem mD:∀(es:List EntM) (i j:Nat) (hi:i<es.length),j<6->(aC es)[i*6+j]?=(fB es[i])[j]?
 | e::r,0,j,hi,hj=>by
  simp only [aC,List.getElem_cons_zero,Nat.zero_mul,Nat.zero_add];rw [List.getElem?_append_left (by simp [fB];exact hj)]
 | e::r,i+1,j,hi,hj=>by
  simp only [aC,List.getElem_cons_succ];rw [List.getElem?_append_right (by simp [fB];omega)];rw [show (i+1)*6+j-(fB e).length=i*6+j by simp [fB];omega];exact mD r i j (by simpa using hi) hj
theorem ik:∀(l:List EntM) (k:Nat) (e:EntM),k<l.length->aC (l.set k e)=((((((aC l).set (k*6) (VI e.level)).set (k*6+1) (VU e.tag)).set (k*6+2) (VU e.asid)).set (k*6+3) (.bool e.glob)).set (k*6+4) (.bool e.valid)).set (k*6+5) (VU e.pte)
 | x::r,0,e,h=>by simp [aC,fB]
 | x::r,k+1,e,h=>by
  have ih:=ik r k e (by simpa using h);rw [List.set_cons_succ];simp only [aC,ih];rw [show (k+1)*6=(fB x).length+k*6 by simp [fB];omega];simp only [Nat.add_assoc];rw [List.set_append_right _ _ (by simp [fB]),List.set_append_right _ _ (by omega),List.set_append_right _ _ (by omega),List.set_append_right _ _ (by omega),List.set_append_right _ _ (by omega),List.set_append_right _ _ (by omega)];simp
theorem pV {e:TypeId} {w:World} {base g n cap:Nat} {es:List EntM} (h:w.ownsRow base e 6 (SL g n cap) n (aC es)) (hn:es.length=n) (k:Nat) (x:EntM) (hx:es[k]?=some x) (j:Nat) (v:Value) (hj:j<6) (hv:(fB x)[j]?=some v):
 w.cell? ⟨g,k*6+j,none⟩=some v:=by
 have hk:=(List.getElem?_eq_some_iff.1 hx).1;refine aQ h _ _ ?_;rw [mD es k j hk hj];obtain ⟨_,rfl⟩:=List.getElem?_eq_some_iff.1 hx;exact hv
def dH (k n:Nat) (es:List EntM):List EntM:=es.take k++List.replicate (n-k) cM
theorem nU (k:Nat) (es:List EntM) (hk:k<=es.length):(dH k es.length es).length=es.length:=by
 simp [dH];omega
theorem qF (k:Nat) (es:List EntM) (x:EntM) (hx:es[k]?=some x):dH (k+1) es.length es=(dH k es.length es).set k x:=by
 obtain ⟨hk,rfl⟩:=List.getElem?_eq_some_iff.1 hx;unfold dH;apply List.ext_getElem?;intro j;rw [List.getElem?_set];by_cases hj:k=j
 ·subst hj;rw [if_pos rfl,if_pos (by simp;omega),List.getElem?_append_left (by simp;omega)];simp [hk]
 ·rw [if_neg hj];by_cases hlt:j<k
  ·rw [List.getElem?_append_left (by simp;omega),List.getElem?_append_left (by simp;omega)];simp [hlt,show j<k+1 by omega]
  ·rw [List.getElem?_append_right (by simp;omega),List.getElem?_append_right (by simp;omega)];simp only [List.length_take,List.getElem?_replicate];rw [show min (k+1) es.length=k+1 by omega,show min k es.length=k by omega];by_cases hh:j<es.length
   ·rw [if_pos (by omega),if_pos (by omega)]
   ·rw [if_neg (by omega),if_neg (by omega)]
theorem xH (k:Nat) (es:List EntM) (hx:es[k]?=some cM):dH (k+1) es.length es=dH k es.length es:=by
 rw [qF k es cM hx];have hk:=(List.getElem?_eq_some_iff.1 hx).1;apply List.ext_getElem?;intro j;rw [List.getElem?_set];by_cases hj:k=j
 ·subst hj;rw [if_pos rfl,if_pos (by rw [nU _ _ (by omega)];exact hk)];unfold dH;rw [List.getElem?_append_right (by simp;omega)];simp only [List.length_take,List.getElem?_replicate];rw [if_pos (by omega)]
 ·rw [if_neg hj]
theorem zy (es:List EntM):dH es.length es.length es=es:=by
 simp [dH]
theorem vg (n:Nat) (es:List EntM):dH 0 n es=List.replicate n cM:=by simp [dH]
theorem jM {B:Nat} {a w:World} {g:Nat} (h:Below B a w) (hg:B<=g) (x y z u v t:Value):Below B a ((((((w.setCell (AD g 0) x).setCell (AD g 1) y).setCell (AD g 2) z).setCell (AD g 3) u).setCell (AD g 4) v).setCell (AD g 5) t):=
 (((kz h hg x y z).setCell (p:=(AD g 3)) hg u).setCell (p:=(AD g 4)) hg v).setCell (p:=(AD g 5)) hg t
theorem iQ {v:World} {p:Nat} {T:TypeId} {a b c d e f:Value} (h:v.heap[p]?=some (.cells #[a,b,c,d,e,f] T (0,0))):
 (v.cell? (AD p 0)=some a∧v.cell? (AD p 1)=some b∧v.cell? (AD p 2)=some c∧v.cell? (AD p 3)=some d∧v.cell? (AD p 4)=some e∧v.cell? (AD p 5)=some f)∧
  (v.frozen? (AD p 0)=false∧v.frozen? (AD p 1)=false∧v.frozen? (AD p 2)=false∧v.frozen? (AD p 3)=false∧v.frozen? (AD p 4)=false∧v.frozen? (AD p 5)=false):=by
 simp [World.cell?,World.frozen?,h]
theorem Dy (z:EntM) (n:Nat):(madeCells (fB z).toArray (n*6)).toList=aC (List.replicate n z):=by
 apply List.ext_getElem?;intro j;by_cases hj:j<n*6
 ·have hq:j/6<(List.replicate n z).length:=by simp;omega
  have:=mD (List.replicate n z) (j/6) (j%6) hq (by omega);rw [show j/6*6+j%6=j by omega] at this;rw [this];have h6:j%6<(fB z).length:=by simp [fB];omega
  simp only [madeCells,List.getElem_replicate];rw [geg h6];simp [hj,fB];rw [geg (by simpa [fB] using h6)];rfl
 ·rw [List.getElem?_eq_none (by simp [madeCells];omega),List.getElem?_eq_none (by rw [ex];simp;omega)]
theorem xN (v:World) (T E:TypeId) (xs cs:Array Value) (ss:List Value) (n:Nat) (hcs:cs.toList=ss) (hn:ss.length=n*6) (hm:n<=maxLen):
 ((v.alloc (.cells cs E)).alloc (.cells xs T)).drew.heap[v.heap.size+1]?=some (.cells xs T (0,0))∧((v.alloc (.cells cs E)).alloc (.cells xs T)).drew.ownsRow v.heap.size E 6 (SL v.heap.size n n) n ss∧
  Bw v ((v.alloc (.cells cs E)).alloc (.cells xs T)).drew∧v.heap.size+1<((v.alloc (.cells cs E)).alloc (.cells xs T)).drew.heap.size:=by
 have hs:cs.size=n*6:=by rw [<-hn,<-hcs];simp
 have h1:=World.ownsRow_lit (e:=E) (size:=6) v cs n (Nat.le_refl v.heap.size) hm hs;rw [hcs] at h1;refine ⟨?_,aq h1 (((brf).alloc nle _).drew),(((Below.refl v.heap.size v).alloc nle _).alloc (by simp) _).drew,?_⟩
 ·have:=fC (v.alloc (.cells cs E)) (.cells xs T);simp only [World.size_alloc] at this;exact this
 ·show _<((v.alloc (.cells cs E)).alloc (.cells xs T)).heap.size;simp
theorem xO (v:World) (T E:TypeId) (xs cs:Array Value) (ss:List Value) (n:Nat) (hcs:cs.toList=ss) (hn:ss.length=n*6) (hm:n<=maxLen):
 ((v.alloc (.cells xs T)).alloc (.cells cs E)).drew.heap[v.heap.size]?=some (.cells xs T (0,0))∧((v.alloc (.cells xs T)).alloc (.cells cs E)).drew.ownsRow v.heap.size E 6 (.slice (some ⟨v.heap.size+1,0,none⟩) n n) n ss∧
  Bw v ((v.alloc (.cells xs T)).alloc (.cells cs E)).drew∧v.heap.size<((v.alloc (.cells xs T)).alloc (.cells cs E)).drew.heap.size:=by
 have hs:cs.size=n*6:=by rw [<-hn,<-hcs];simp
 have h1:=World.ownsRow_lit (e:=E) (size:=6) (v.alloc (.cells xs T)) cs n (base:=v.heap.size) (by simp) hm hs;rw [hcs] at h1;simp only [World.size_alloc] at h1;refine ⟨?_,h1,(((Below.refl v.heap.size v).alloc nle _).alloc (by simp) _).drew,?_⟩
 ·show ((v.alloc (.cells xs T)).alloc (.cells cs E)).heap[v.heap.size]?=_;rw [yw _ _ (by simp)];exact fC v _
 ·show _<((v.alloc (.cells xs T)).alloc (.cells cs E)).heap.size;simp;omega
theorem jb {w:World} {g n:Nat} {es:List EntM} (h:RowC w (some (AD g 0)) n 6 (aC es)) (hn:es.length=n) (k:Nat) (x:EntM) (hx:es[k]?=some x) (j:Nat) (v:Value) (hj:j<6) (hv:(fB x)[j]?=some v):
 w.cell? ⟨g,k*6+j,none⟩=some v:=by
 have hk:=(List.getElem?_eq_some_iff.1 hx).1;rcases h.2 with h0 | ⟨b',off',e,_,hc⟩
 ·omega
 ·simp at e;obtain ⟨rfl,rfl⟩:=e;have:=hc (k*6+j) v (by
   rw [mD es k j hk hj];obtain ⟨_,rfl⟩:=List.getElem?_eq_some_iff.1 hx;exact hv)
  rw [Nat.zero_add] at this;exact this
theorem ui {w w':World} {r:Option Nat} (h:Bw w w'):w.grownBy w' r:=
 ⟨h.os,h.tape,h.output,h.size,fun i hi _=>h.block i hi⟩
theorem rj (w:World) (r:Option Nat):w.grownBy w.drew r:=ui (brf).drew
theorem Dz {B:Nat} {a w:World} {g:Nat} (h:Below B a w) (hg:B<=g) (x y z u:Value):Below B a ((((w.setCell (AD g 0) x).setCell (AD g 1) y).setCell (AD g 2) z).setCell (AD g 3) u):=
 (kz h hg x y z).setCell (p:=(AD g 3)) hg u
theorem iz {v:World} {p:Nat} {cs:Array Value} {T:TypeId} (h:v.heap[p]?=some (.cells cs T (0,0))) (i:Nat) (x:Value) (hx:cs[i]?=some x):v.cell? (AD p i)=some x:=by
 simp [World.cell?,h,hx]
def Keeps (w w':World) (x y z:Nat):Prop:=
 w'.os=w.os∧w'.tape=w.tape∧w'.output=w.output∧w.heap.size<=w'.heap.size∧∀i,i<w.heap.size->i≠x->i≠y->i≠z->w'.heap[i]?=w.heap[i]?
theorem Keeps.refl (w:World) (x y z:Nat):Keeps w w x y z:=⟨rfl,rfl,rfl,nle,fun _ _ _ _ _=>rfl⟩
theorem Keeps.of_below {w w':World} (x y z:Nat) (h:Bw w w'):Keeps w w' x y z:=⟨h.os,h.tape,h.output,h.size,fun i hi _ _ _=>h.block i hi⟩
theorem Keeps.of_gb {w w':World} {r:Nat} (x y z:Nat) (h:w.grownBy w' (some r)) (hr:r=x∨r=y∨r=z):Keeps w w' x y z:=
 ⟨h.os,h.tape,h.output,h.size,fun i hi h1 h2 h3=>h.block i hi (by
  simp only [ne_eq,Option.some.injEq];rcases hr with rfl | rfl | rfl <;> (intro e;subst e;contradiction))⟩
theorem Keeps.trans {a b c:World} {x y z:Nat} (h:Keeps a b x y z) (k:Keeps b c x y z):Keeps a c x y z:=
 ⟨k.1.trans h.1,k.2.1.trans h.2.1,k.2.2.1.trans h.2.2.1,Nat.le_trans h.2.2.2.1 k.2.2.2.1,fun i hi h1 h2 h3=>(k.2.2.2.2 i (ltl hi h.2.2.2.1) h1 h2 h3).trans (h.2.2.2.2 i hi h1 h2 h3)⟩
theorem Keeps.heap {w w':World} {x y z i:Nat} {o:Obj} (h:Keeps w w' x y z) (hi:w.heap[i]?=some o) (h1:i≠x) (h2:i≠y) (h3:i≠z):w'.heap[i]?=some o:=
 (h.2.2.2.2 i (hpl hi) h1 h2 h3).trans hi
theorem Keeps.below {w w' a:World} {B x y z:Nat} (hb:Below B a w) (h:Keeps w w' x y z) (hB:B<=w.heap.size) (h1:B<=x) (h2:B<=y) (h3:B<=z):Below B a w':=
 hb.trans ⟨h.1,h.2.1,h.2.2.1,h.2.2.2.1,fun k hk=>h.2.2.2.2 k (by omega) (by omega) (by omega) (by omega)⟩
def gX (k:KM) (gi gd gp:Nat):Array Value:=
 #[VI k.i.sets,VI k.i.ways,SL gi k.i.es.length k.i.es.length,VI k.d.sets,VI k.d.ways,SL gd k.d.es.length k.d.es.length,VI k.p.sets,VI k.p.ways,SL gp k.p.es.length k.p.es.length]
def RowsAt (w:World) (base gi gd gp:Nat) (k:KM):Prop:=
 w.ownsRow base 216 6 (SL gi k.i.es.length k.i.es.length) k.i.es.length (aC k.i.es)∧
 w.ownsRow base 216 6 (SL gd k.d.es.length k.d.es.length) k.d.es.length (aC k.d.es)∧
 w.ownsRow base 221 6 (SL gp k.p.es.length k.p.es.length) k.p.es.length (aC k.p.es)∧gi≠gd∧gi≠gp∧gd≠gp
theorem RowsAt.keep {w w':World} {base gi gd gp:Nat} {k:KM} (h:RowsAt w base gi gd gp k) (hb:Bw w w'):RowsAt w' base gi gd gp k:=
 ⟨aq h.1 hb,aq h.2.1 hb,aq h.2.2.1 hb,h.2.2.2⟩
theorem mO {e:TypeId} {size:Nat} {w w':World} {base n r g c:Nat} {cs:List Value} (h:w.ownsRow base e size (SL g n c) n cs) (hg:w.grownBy w' (some r)) (hr:g≠r):w'.ownsRow base e size (SL g n c) n cs:=by
 refine h.kept hg (.inr ?_);simp [Value.ownBlock];exact hr
theorem RowsAt.putP {w w':World} {base gi gd gp:Nat} {k:KM} {es:List EntM} (h:RowsAt w base gi gd gp k) (hg:w.grownBy w' (some gp)) (hl:es.length=k.p.es.length) (ho:w'.ownsRow base 221 6 (SL gp k.p.es.length k.p.es.length) k.p.es.length (aC es)):
 RowsAt w' base gi gd gp ⟨k.i,k.d,⟨k.p.sets,k.p.ways,es⟩⟩:=by
 obtain ⟨h1,h2,h3,d1,d2,d3⟩:=h;refine ⟨mO h1 hg d2,mO h2 hg d3,?_,d1,d2,d3⟩;simp only;rw [hl];exact ho
theorem RowsAt.putI {w w':World} {base gi gd gp:Nat} {k:KM} {es:List EntM} (h:RowsAt w base gi gd gp k) (hg:w.grownBy w' (some gi)) (hl:es.length=k.i.es.length) (ho:w'.ownsRow base 216 6 (SL gi k.i.es.length k.i.es.length) k.i.es.length (aC es)):
 RowsAt w' base gi gd gp ⟨⟨k.i.sets,k.i.ways,es⟩,k.d,k.p⟩:=by
 obtain ⟨h1,h2,h3,d1,d2,d3⟩:=h;refine ⟨?_,mO h2 hg (Ne.symm d1),mO h3 hg (Ne.symm d2),d1,d2,d3⟩;simp only;rw [hl];exact ho
theorem RowsAt.putD {w w':World} {base gi gd gp:Nat} {k:KM} {es:List EntM} (h:RowsAt w base gi gd gp k) (hg:w.grownBy w' (some gd)) (hl:es.length=k.d.es.length) (ho:w'.ownsRow base 216 6 (SL gd k.d.es.length k.d.es.length) k.d.es.length (aC es)):
 RowsAt w' base gi gd gp ⟨k.i,⟨k.d.sets,k.d.ways,es⟩,k.p⟩:=by
 obtain ⟨h1,h2,h3,d1,d2,d3⟩:=h;refine ⟨mO h1 hg d1,?_,mO h3 hg (Ne.symm d3),d1,d2,d3⟩;simp only;rw [hl];exact ho
def SetAt (w:World) (b base gi gd gp:Nat) (k:KM):Prop:=
 w.heap[b]?=some (.cells (gX k gi gd gp) 86 (0,0))∧RowsAt w base gi gd gp k∧b≠gi∧b≠gd∧b≠gp
theorem SetAt.keep {w w':World} {b base gi gd gp:Nat} {k:KM} (h:SetAt w b base gi gd gp k) (hb:Bw w w'):SetAt w' b base gi gd gp k:=
 ⟨ae h.1 hb (hpl h.1),h.2.1.keep hb,h.2.2⟩
theorem SetAt.lt {w:World} {b base gi gd gp:Nat} {k:KM} (h:SetAt w b base gi gd gp k):b<w.heap.size:=(hpl h.1)
theorem SetAt.cellI {w:World} {b base gi gd gp:Nat} {k:KM} (h:SetAt w b base gi gd gp k):
 w.cell? (AD b 0)=some (VI k.i.sets)∧w.cell? ⟨b,0+1,none⟩=some (VI k.i.ways)∧w.cell? ⟨b,0+2,none⟩=some (SL gi k.i.es.length k.i.es.length):=
 ⟨iz h.1 0 _ rfl,iz h.1 1 _ rfl,iz h.1 2 _ rfl⟩
theorem SetAt.cellD {w:World} {b base gi gd gp:Nat} {k:KM} (h:SetAt w b base gi gd gp k):
 w.cell? (AD b 3)=some (VI k.d.sets)∧w.cell? ⟨b,3+1,none⟩=some (VI k.d.ways)∧w.cell? ⟨b,3+2,none⟩=some (SL gd k.d.es.length k.d.es.length):=
 ⟨iz h.1 3 _ rfl,iz h.1 4 _ rfl,iz h.1 5 _ rfl⟩
theorem SetAt.cellP {w:World} {b base gi gd gp:Nat} {k:KM} (h:SetAt w b base gi gd gp k):
 w.cell? (AD b 6)=some (VI k.p.sets)∧w.cell? ⟨b,6+1,none⟩=some (VI k.p.ways)∧w.cell? ⟨b,6+2,none⟩=some (SL gp k.p.es.length k.p.es.length):=
 ⟨iz h.1 6 _ rfl,iz h.1 7 _ rfl,iz h.1 8 _ rfl⟩
def CellsM (w:World) (b:Nat) (A:Array Value):Prop:=
 ∃C,w.heap[b]?=some (.cells C 90 (0,0))∧∀(i:Nat) (v:Value),A[i]?=some v->C[20+i]?=some v
theorem CellsM.keep {w w':World} {b:Nat} {A:Array Value} (h:CellsM w b A) (hb:Bw w w'):CellsM w' b A:=by
 obtain ⟨C,h1,h2⟩:=h;exact ⟨C,ae h1 hb (hpl h1),h2⟩
theorem CellsM.gb {w w':World} {b r:Nat} {A:Array Value} (h:CellsM w b A) (hg:w.grownBy w' (some r)) (hne:b≠r):CellsM w' b A:=by
 obtain ⟨C,h1,h2⟩:=h;exact ⟨C,aA h1 hg hne,h2⟩
theorem CellsM.cell {w:World} {b:Nat} {A:Array Value} (h:CellsM w b A) (i j:Nat) (v:Value) (hv:A[i]?=some v) (hj:20+i=j):w.cell? (AD b j)=some v:=by
 obtain ⟨C,h1,h2⟩:=h;subst hj;exact iz h1 _ v (h2 i v hv)
def SetM (w:World) (b base gi gd gp:Nat) (k:KM):Prop:=
 CellsM w b (gX k gi gd gp)∧RowsAt w base gi gd gp k∧b≠gi∧b≠gd∧b≠gp
theorem SetM.keep {w w':World} {b base gi gd gp:Nat} {k:KM} (h:SetM w b base gi gd gp k) (hb:Bw w w'):SetM w' b base gi gd gp k:=
 ⟨h.1.keep hb,h.2.1.keep hb,h.2.2⟩
theorem SetM.lt {w:World} {b base gi gd gp:Nat} {k:KM} (h:SetM w b base gi gd gp k):b<w.heap.size:=by
 obtain ⟨C,h1,_⟩:=h.1;exact (hpl h1)
theorem SetM.cellI {w:World} {b base gi gd gp:Nat} {k:KM} (h:SetM w b base gi gd gp k):
 w.cell? (AD b 20)=some (VI k.i.sets)∧w.cell? ⟨b,20+1,none⟩=some (VI k.i.ways)∧w.cell? ⟨b,20+2,none⟩=some (SL gi k.i.es.length k.i.es.length):=
 ⟨h.1.cell 0 _ _ rfl rfl,h.1.cell 1 _ _ rfl rfl,h.1.cell 2 _ _ rfl rfl⟩
theorem SetM.cellD {w:World} {b base gi gd gp:Nat} {k:KM} (h:SetM w b base gi gd gp k):
 w.cell? (AD b 23)=some (VI k.d.sets)∧w.cell? ⟨b,23+1,none⟩=some (VI k.d.ways)∧w.cell? ⟨b,23+2,none⟩=some (SL gd k.d.es.length k.d.es.length):=
 ⟨h.1.cell 3 _ _ rfl rfl,h.1.cell 4 _ _ rfl rfl,h.1.cell 5 _ _ rfl rfl⟩
theorem SetM.cellP {w:World} {b base gi gd gp:Nat} {k:KM} (h:SetM w b base gi gd gp k):
 w.cell? (AD b 26)=some (VI k.p.sets)∧w.cell? ⟨b,26+1,none⟩=some (VI k.p.ways)∧w.cell? ⟨b,26+2,none⟩=some (SL gp k.p.es.length k.p.es.length):=
 ⟨h.1.cell 6 _ _ rfl rfl,h.1.cell 7 _ _ rfl rfl,h.1.cell 8 _ _ rfl rfl⟩
def gA:List (Nat × Int)->List Int->List Int
 | [],m=>m
 | o::os,m=>(gA os m).set o.1 o.2
theorem qf:∀(ol:List (Nat × Int)) (x:Nat × Int) (m:List Int),gA (ol++[x]) m=gA ol (m.set x.1 x.2)
 | [],x,m=>rfl
 | o::os,x,m=>by simp only [List.cons_append,gA,qf os x m]
theorem yx:∀(ol:List (Nat × Int)) (m:List Int),(gA ol m).length=m.length
 | [],m=>rfl
 | o::os,m=>by simp only [gA,List.length_set,yx os m]
theorem zR (ol:List (Nat × Int)) (a:Nat) (v:Int) (m:List Int):gA (ol++[(a,m[a]?.getD 0)]) (m.set a v)=gA ol m:=by
 rw [qf];simp only [List.set_set];by_cases h:a<m.length
 ·rw [geg h,Option.getD_some,List.set_getElem_self]
 ·rw [List.set_eq_of_length_le (by omega)]
def BytM (zs:List Int):Prop:=∀i:Nat,0<=zs[i]?.getD 0∧zs[i]?.getD 0<=255
theorem BytM.set {zs:List Int} (h:BytM zs) (k:Nat) (z:Int) (h0:0<=z) (h1:z<=255):BytM (zs.set k z):=by
 refine bU fun x hx=>?_;rcases List.mem_or_eq_of_mem_set hx with hx | rfl
 ·exact gx h x hx
 ·exact ⟨h0,h1⟩
def tN (mem:List Int) (pa j:Nat):List Int:=(mem.drop pa).take j
theorem Cd (mem:List Int) (pa j:Nat) (h:pa+j<mem.length):tN mem pa (j+1)=tN mem pa j++[mem[pa+j]?.getD 0]:=by
 unfold tN;rw [List.take_succ_eq_append_getElem (by simp;omega)];simp [h]
theorem DS (mem:List Int) (pa j:Nat) (h:pa+j<=mem.length):(tN mem pa j).length=j:=by
 simp [tN];omega
theorem kD (mem:List Int):∀(a b:List bw),cE mem (a++b)=cE mem a++cE mem b
 | [],b=>rfl
 | p::a,b=>by simp only [List.cons_append,cE,kD mem a b,List.append_assoc]
def ti (mem:List Int) (ps:List bw):Prop:=∀p∈ps,fD mem.length p.2.2 p.2.1=true
theorem pj {mem:List Int}:∀{ps:List bw},ti mem ps->fL mem ps=none
 | [],_=>rfl
 | q::ps,h=>by
  unfold fL;rw [if_pos (h q (by simp)),pj fun p hp=>h p (by simp [hp])]
theorem rq {mem:List Int}:∀{a:List bw} {p:bw} {b:List bw},ti mem a->fD mem.length p.2.2 p.2.1=false->fL mem (a++p::b)=some p.1
 | [],p,b,_,h=>by simp only [List.nil_append,fL];rw [if_neg (by rw [h];simp)]
 | q::a,p,b,ha,h=>by
  simp only [List.cons_append,fL];rw [if_pos (ha q (by simp)),rq (fun x hx=>ha x (by simp [hx])) h]
theorem DT (xs:List Int) (y:Int):num (xs++[y])=num xs+y*256^xs.length:=by
 rw [ny];simp [num,Int.mul_comm]
theorem DU (mem:List Int) (pa j:Nat) (x:Int) (h:pa+j<mem.length):(put mem pa (bM x j)).set (pa+j) (x/256^j%256)=put mem pa (bM x (j+1)):=by
 rw [EO _ _ _ (by rw [Ai _ _ _ (by rw [fR];omega)];exact h)];have:=Dc mem pa j 1 x (by omega);rw [<-this];rfl
theorem uw (n m:Nat) (x:Int) (h:n<=m):(bM x m).take n=bM x n:=by
 obtain ⟨k,rfl⟩:=Nat.le.dest h;rw [rV,List.take_append_of_le_length (by rw [fR];exact nle),List.take_of_length_le (by rw [fR];exact nle)]
theorem ux (n m:Nat) (x:Int):(bM x (n+m)).drop n=bM (x/256^n) m:=by
 rw [rV,List.drop_append,List.drop_of_length_le (by rw [fR];exact nle),fR,Nat.sub_self];simp
def bR:List bw->Nat
 | []=>0
 | p::ps=>p.2.1.toNat+bR ps
theorem qO (mem:List Int):∀(a:List bw) (mem:List Int) (b:List bw) (x:Int) (m:Nat),iN mem (a++b) (bM x (bR a+m))=iN (iN mem a (bM x (bR a))) b (bM (x/256^bR a) m)
 | [],mem,b,x,m=>by simp [iN,bR]
 | p::a,mem,b,x,m=>by
  simp only [List.cons_append,iN,bR];rw [uw _ _ x (by omega),uw _ _ x (by omega),show p.2.1.toNat+bR a+m=p.2.1.toNat+(bR a+m) by omega,ux,ux,qO mem a];congr 2;rw [Int.pow_add,<-Int.ediv_ediv_of_nonneg (Int.le_of_lt (Int.pow_pos (by omega)))]
theorem Tryz.sizeB:(Tryz.prog.info? 5).map (fun i=>i.size)=some 1:=by kernel_rfl
theorem yZ (a:Option Addr) (len cap:Nat) (zs:List Int) (w:World) (h:Byt w a len zs) (hl:len<=1048576):
 Calls Tryz.prog 54 #[.slice a len cap] w fun e w'=>
  e=.returned (SL w.heap.size len len)∧Blk 5 w' w.heap.size zs∧Bw w w':=by
 obtain ⟨i0,hi,hz0,hz1,hz2⟩:=info_parts Tryz.infoB;have hz:=h.1;go_enter Tryz.func54,Tryz.ntmps54;go_wp2_with (at_make;refine wpList_make_full _ rfl _ _ 75 rfl w.heap.size 5 i0 (.int .u8 0) 1 Tryz.underlying75 hi hz0 hz1 _ _ _ _ len rfl rfl rfl rfl ?b2 ?b3 nle ?_)
 case b2=>rw [hz2];omega
 case b3=>unfold maxLen;omega
 intro w0 hown0 hgrow0;rw [AN] at hown0;have hb0:=Blk.of_own hown0 rfl;have hn0:Bw w w0:=(brf).grown hgrow0 nle (fun k h=>by cases h);have h0:=h.keep hn0;clear hown0 hgrow0 h;go_wp2_with (refine wpList_copy_splice rfl (.tmp 7) (.tmp 8) 75 75 rfl 5 Tryz.underlying75 Tryz.sizeB _ _ _ _ _ _ rfl rfl w.heap.size 0 ((List.replicate len (0:Int)).map (Value.int .u8)) 5 hb0 (zs.map (Value.int .u8)) (by simp [hz]) (fun hp=>⟨rfl,FG h0 (by simpa [hz] using hp)⟩) (by simp [hz]) (vV _) w.heap.size w hn0 nle ?_;intro w1 hb1 hn1);go_ret;have hb2:=hb1.out;rw [zX _ _ (by simp [hz])] at hb2;exact ⟨rfl,hb2,hn1⟩
end Go.Proofs.YthdgiakgepmabaaGreat
