import Derived.Lib.SlMapFilter
import Derived.DeepKeys4
import Derived.Test.YtkenjknmfhoppaaGreatPk12
import Derived.Test.YtkenjknmfhoppaaGreatPk09
namespace Go.Proofs.YtkenjknmfhoppaaGreat
open Go.RowKit
set_option linter.unusedVariables false
set_option maxHeartbeats 6400000
set_option maxRecDepth 20000
abbrev dh:=Int × Int × Int × Bool
def kq (level tag asid:Int) (glob:Bool):dh:=(level,tag,if glob=true then 0 else asid,glob)
def uq (g:ay):dh:=kq g.2.2.2.1 g.1 g.2.1 g.2.2.1
def ei:List (dh × aQ)->dh->Option aQ
 | [],_=>none
 | e::es,k=>if e.1=k then some e.2 else ei es k
def pT:List (dh × aQ)->dh->aQ->List (dh × aQ)
 | [],k,r=>[(k,r)]
 | e::es,k,r=>if e.1=k then (k,r)::es else e::pT es k r
def oJ (m:List (dh × aQ)) (cov:dh->Bool):List (dh × aQ):=m.filter fun e=>!cov e.1
theorem jG:∀(m:List (dh × aQ)) (k:dh) (r:aQ) (k':dh),ei (pT m k r) k'=if k=k' then some r else ei m k'
 | [],k,r,k'=>by simp [pT,ei]
 | e::es,k,r,k'=>by
  unfold pT;by_cases h:e.1=k
  ·rw [if_pos h];simp only [ei];by_cases h2:k=k'
   ·rw [if_pos h2,if_pos h2]
   ·rw [if_neg h2,if_neg h2,if_neg (by rw [h];exact h2)]
  ·rw [if_neg h];simp only [ei,jG es k r k'];by_cases h2:k=k'
   ·rw [if_pos h2,if_pos h2,if_neg (by rw [<-h2];exact h)]
   ·rw [if_neg h2,if_neg h2]
theorem jH (cov:dh->Bool):∀(m:List (dh × aQ)) (k:dh),ei (oJ m cov) k=if cov k=true then none else ei m k
 | [],k=>by simp [oJ,ei]
 | e::es,k=>by
  have ih:=jH cov es k;unfold oJ at ih |-;rw [List.filter_cons];by_cases h:e.1=k
  ·subst h;by_cases hc:cov e.1=true
   ·rw [if_neg (by simp [hc]),ih,if_pos hc,if_pos hc]
   ·rw [if_pos (by simpa using hc)];simp only [ei];simp [hc]
  ·by_cases hc:cov e.1=true
   ·rw [if_neg (by simp [hc]),ih];simp only [ei,if_neg h]
   ·rw [if_pos (by simpa using hc)];simp only [ei,if_neg h];exact ih
structure RelG (gs:List ay) (m:List (dh × aQ)):Prop where
 into:∀g∈gs,ei m (uq g)=some g.2.2.2
 back:∀k r,ei m k=some r->∃g∈gs,uq g=k∧g.2.2.2=r
 level:∀g∈gs,0<=g.2.2.2.1∧g.2.2.2.1<=2
theorem EO:RelG [] []:=⟨fun _ h=>(by cases h),fun _ _ h=>(by simp [ei] at h),fun _ h=>(by cases h)⟩
def jI (m:List (dh × aQ)) (recs:List aQ) (va asid level:Int) (glob:Bool):Bool:=
 match ei m (kq level (eg va level) asid glob) with
 | none=>false
 | some r=>!decide (r∈recs)
def gH (m:List (dh × aQ)) (recs:List aQ) (va asid:Int):Bool:=
 ([0,1,2]:List Int).all fun l=>!jI m recs va asid l false && !jI m recs va asid l true
theorem EP {g:ay} {va asid:Int} (h:eL g va asid=true):uq g=kq g.2.2.2.1 (eg va g.2.2.2.1) asid g.2.2.1:=by
 simp only [eL,Bool.and_eq_true,beq_iff_eq,Bool.or_eq_true] at h;obtain ⟨h1,h2⟩:=h;unfold uq;rw [h1];rcases h2 with h2 | h2
 ·simp [kq,h2]
 ·rw [h2]
theorem yD {g:ay} {va asid level:Int} {glob:Bool} (h:uq g=kq level (eg va level) asid glob):eL g va asid=true∧g.2.2.2.1=level∧g.2.2.1=glob:=by
 simp only [uq,kq,Prod.mk.injEq] at h;obtain ⟨h1,h2,h3,h4⟩:=h;refine ⟨?_,h1,h4⟩;simp only [eL,Bool.and_eq_true,beq_iff_eq,Bool.or_eq_true];refine ⟨by rw [h2,h1],?_⟩;cases hg:g.2.2.1
 ·right;rw [hg] at h3 h4;rw [<-h4] at h3;simpa using h3
 ·exact .inl rfl
theorem yE {gs:List ay} {m:List (dh × aQ)} (R:RelG gs m) (h:HartM) (va:Int):gH m (bO h.mem h.satp va).2.2.2 va (aO h.satp)=lJ gs h va:=by
 apply Bool.eq_iff_iff.2;constructor
 ·intro hw;unfold lJ;rw [List.all_eq_true];intro g hg;cases hf:eL g va (aO h.satp)
  ·rfl
  ·simp only [Bool.not_true,Bool.false_or];have h1:=R.into g hg;rw [EP hf] at h1;have hl:=R.level g hg;have hm:g.2.2.2.1∈([0,1,2]:List Int):=by
    have:g.2.2.2.1=0∨g.2.2.2.1=1∨g.2.2.2.1=2:=by omega
    rcases this with h | h | h <;> rw [h] <;> decide
   have h2:=List.all_eq_true.1 hw _ hm;simp only [Bool.and_eq_true,Bool.not_eq_true'] at h2;have h3:jI m (bO h.mem h.satp va).2.2.2 va (aO h.satp) g.2.2.2.1 g.2.2.1=false:=by
    cases hb:g.2.2.1
    ·exact h2.1
    ·exact h2.2
   unfold jI at h3;rw [h1] at h3;simpa using h3
 ·intro hl;unfold gH;rw [List.all_eq_true];intro l hlm;have:∀b,jI m (bO h.mem h.satp va).2.2.2 va (aO h.satp) l b=false:=by
   intro b;unfold jI;cases hf:ei m (kq l (eg va l) (aO h.satp) b) with
   | none=>rfl
   | some r=>
    obtain ⟨g,hg,hk,hr⟩:=R.back _ _ hf;have h1:=List.all_eq_true.1 hl g hg;rw [(yD hk).1] at h1;simp only [Bool.not_true,Bool.false_or] at h1;rw [hr] at h1;simpa using h1
  rw [this,this];rfl
theorem yF (zs:List Int) (va:Int):∀(l:Nat) (n:Int),(∀r∈(bD zs va l n).2.2.2,0<=r.1∧r.1<=l)∧∀r∈(bD zs va l n).2.2.2,∀r'∈(bD zs va l n).2.2.2,r.1=r'.1->r=r':=by
 intro l
 induction l with
 | zero=>
  intro n;unfold bD;split
  ·simp
  ·split
   ·simp
   ·split
    ·simp
    ·simp
 | succ k ih=>
  intro n;unfold bD;split
  ·simp
  ·split
   ·simp
   ·split
    ·simp;omega
    ·generalize rdV zs (64*n+8*dq va (k+1:Nat)) 8=x;obtain ⟨i1,i2⟩:=ih (dK x);simp only [List.mem_cons];refine ⟨?_,?_⟩
     ·rintro r (rfl | hr)
      ·simp only;omega
      ·have:=i1 r hr;omega
     ·rintro r (rfl | hr) r' (rfl | hr') he
      ·rfl
      ·have:=i1 r' hr';simp only at he;omega
      ·have:=i1 r hr;simp only at he;omega
      ·exact i2 r hr r' hr' he
theorem yG (zs:List Int) (root va:Int):(∀r∈(bO zs root va).2.2.2,0<=r.1∧r.1<=2)∧∀r∈(bO zs root va).2.2.2,∀r'∈(bO zs root va).2.2.2,r.1=r'.1->r=r':=by
 unfold bO;split
 ·simp
 ·exact yF zs va 2 _
def jJ (va asid:Int):List aQ->List (dh × aQ)->List (dh × aQ)
 | [],m=>m
 | r::rs,m=>jJ va asid rs (pT m (kq r.1 (eg va r.1) asid (bU r.2.2 32)) r)
def fL (h:HartM) (kind:Int) (rs:List aQ):List aQ:=rs.filter fun r=>aW r.2.2 r.1 == 1 || cQ r.2.2 kind h.mode h.sum h.mxr
theorem td (h:HartM) (kind va:Int) (ws:List aQ) (hl:∀r∈ws,0<=r.1∧r.1<=2) (hu:∀r∈ws,∀r'∈ws,r.1=r'.1->r=r'):∀(rs:List aQ) (gs:List ay) (m:List (dh × aQ)),(∀r∈rs,r∈ws)->RelG gs m->(∀g∈gs,eL g va (aO h.satp)=true->g.2.2.2∈ws)->RelG (dU h kind va rs gs) (jJ va (aO h.satp) (fL h kind rs) m)
 | [],gs,m,_,R,_=>R
 | r::rs,gs,m,hs,R,hf=>by
  have hr:=hs r (List.mem_cons_self ..);have hs':∀x∈rs,x∈ws:=fun x hx=>hs x (List.mem_cons_of_mem _ hx);rw [dU,fL,List.filter_cons];by_cases hc:(aW r.2.2 r.1 == 1 || cQ r.2.2 kind h.mode h.sum h.mxr)=true
  ·rw [if_pos hc,if_pos hc];have hk:uq (fz va h.satp r)=kq r.1 (eg va r.1) (aO h.satp) (bU r.2.2 32):=rfl;have hfit:eL (fz va h.satp r) va (aO h.satp)=true:=by simp [eL,fz]
   have hmem:∀g,g∈qR gs (fz va h.satp r)↔g∈gs∨g=fz va h.satp r:=by
    intro g;unfold qR;split
    ·rename_i hin;constructor
     ·exact .inl
     ·rintro (h | rfl)
      ·exact h
      ·exact hin
    ·simp
   refine td h kind va ws hl hu rs _ _ hs' ⟨?_,?_,?_⟩ ?_
   ·intro g hg;rw [jG];rcases (hmem g).1 hg with hg | rfl
    ·by_cases he:kq r.1 (eg va r.1) (aO h.satp) (bU r.2.2 32)=uq g
     ·rw [if_pos he];have f:=yD he.symm;rw [hu _ (hf g hg f.1) _ hr f.2.1]
     ·rw [if_neg he];exact R.into g hg
    ·rw [if_pos hk.symm];rfl
   ·intro k x hx;rw [jG] at hx;split at hx
    ·rename_i he;exact ⟨_,(hmem _).2 (.inr rfl),by rw [<-he];rfl,by simpa [fz] using hx⟩
    ·obtain ⟨g,hg,h1,h2⟩:=R.back k x hx;exact ⟨g,(hmem g).2 (.inl hg),h1,h2⟩
   ·intro g hg;rcases (hmem g).1 hg with hg | rfl
    ·exact R.level g hg
    ·exact hl r hr
   ·intro g hg hfi;rcases (hmem g).1 hg with hg | rfl
    ·exact hf g hg hfi
    ·exact hr
  ·rw [if_neg hc,if_neg hc];exact td h kind va ws hl hu rs gs m hs' R hf
theorem Dc {gs:List ay} {m:List (dh × aQ)} (R:RelG gs m) (h:HartM) (kind va:Int) (hw:lJ gs h va=true):RelG (dU h kind va (bO h.mem h.satp va).2.2.2 gs) (jJ va (aO h.satp) (fL h kind (bO h.mem h.satp va).2.2.2) m):=by
 obtain ⟨hl,hu⟩:=yG h.mem h.satp va;refine td h kind va _ hl hu _ gs m (fun _ h=>h) R fun g hg hf=>?_;have:=List.all_eq_true.1 hw g hg;rw [hf] at this;simpa using this
def fW (f:FenceM) (k:dh):Bool:=eS f k.1 k.2.1 k.2.2.1 k.2.2.2
theorem uS (f:FenceM) (g:ay):fW f (uq g)=eS f g.2.2.2.1 g.1 g.2.1 g.2.2.1:=by
 unfold fW uq kq;cases hg:g.2.2.1
 ·simp
 ·simp [eS]
theorem De {gs:List ay} {m:List (dh × aQ)} (R:RelG gs m) (f:FenceM):RelG (dD gs f) (oJ m (fW f)):=by
 refine ⟨?_,?_,?_⟩
 ·intro g hg;simp only [dD,List.mem_filter,Bool.not_eq_true'] at hg;rw [jH,uS,hg.2];simp only [Bool.false_eq_true,if_false];exact R.into g hg.1
 ·intro k r hr;rw [jH] at hr;split at hr
  ·cases hr
  ·rename_i hc;obtain ⟨g,hg,h1,h2⟩:=R.back k r hr;refine ⟨g,?_,h1,h2⟩;simp only [dD,List.mem_filter,Bool.not_eq_true'];refine ⟨hg,?_⟩;rw [<-uS,h1];simpa using hc
 ·intro g hg;simp only [dD,List.mem_filter] at hg;exact R.level g hg.1
section
open Go.RowKit Go.Maps
abbrev jT (k:dh):Value:=.agg #[VI k.1,VU k.2.1,VU k.2.2.1,.bool k.2.2.2]
abbrev oU (r:aQ):Value:=.agg #[VI r.1,VU r.2.1,VU r.2.2]
def xH (r:aQ):DataW Unit:=.agg [.lit (.int .i64 r.1),.lit (.int .u64 r.2.1),.lit (.int .u64 r.2.2)]
def xI:Value->Option (DataW Unit × List MemPlace)
 | .agg ⟨[.int .i64 l,.int .u64 a,.int .u64 v]⟩=>some (xH (l,a,v),[])
 | _=>none
theorem Bm (r:aQ):xI (oU r)=some (xH r,[]):=rfl
theorem xJ {v:Value} {z:DataW Unit × List MemPlace} (h:xI v=some z):∃r,v=oU r∧z=(xH r,[]):=by
 unfold xI at h;split at h
 ·cases h;exact ⟨(_,_,_),rfl,rfl⟩
 ·cases h
theorem xK {r s:aQ} (h:xH r=xH s):r=s:=by
 obtain ⟨a,b,c⟩:=r;obtain ⟨d,e,f⟩:=s;simp only [xH,DataW.agg.injEq,List.cons.injEq,DataW.lit.injEq,Lit.int.injEq,true_and,and_true] at h;obtain ⟨rfl,rfl,rfl⟩:=h;rfl
theorem xL {k l:dh} (h:jT k=jT l):k=l:=by
 obtain ⟨a,b,c,d⟩:=k;obtain ⟨e,f,g,i⟩:=l;simp only [jT,Value.agg.injEq,Array.mk.injEq,List.cons.injEq,Value.int.injEq,Value.bool.injEq,true_and,and_true] at h;obtain ⟨rfl,rfl,rfl,rfl⟩:=h;rfl
theorem lY:Keyed Tryz.prog 244:=Keyed.of_law (deep_law (m:=3) (by decide) (by kernel_rfl) (by kernel_rfl) (by kernel_rfl))
abbrev kpq (P:Program) (v:Value):Option Lit:=keyOf P 244 v
theorem xM (a b c d:Value):kpq Tryz.prog (.agg #[a,b,c,d])=((do
 let x <-Tryz.prog.keyLits Tryz.prog.types.size 2 [a]
 let y <-Tryz.prog.keyLits Tryz.prog.types.size 29 [b]
 let z <-Tryz.prog.keyLits Tryz.prog.types.size 29 [c]
 let u <-Tryz.prog.keyLits Tryz.prog.types.size 4 [d]
 pure [x,y,z,u]:Option (List (List Lit))).map List.flatten).map fun ls=>.string (keyBytes ls):=by
 kernel_rfl
theorem Bn (v:Value):Tryz.prog.keyLits Tryz.prog.types.size 2 [v]=match v with | .int q n=>if q=.i64∧(Lit.int .i64 n).wf=true then some [.int .i64 n] else none | _=>none:=by
 cases v <;> kernel_rfl
theorem so (v:Value):Tryz.prog.keyLits Tryz.prog.types.size 29 [v]=match v with | .int q n=>if q=.u64∧(Lit.int .u64 n).wf=true then some [.int .u64 n] else none | _=>none:=by
 cases v <;> kernel_rfl
theorem xN (v:Value):Tryz.prog.keyLits Tryz.prog.types.size 4 [v]=match v with | .bool b=>some [.bool b] | _=>none:=by
 cases v <;> kernel_rfl
theorem Im {k:dh} (h1:(Lit.int .i64 k.1).wf=true) (h2:(Lit.int .u64 k.2.1).wf=true) (h3:(Lit.int .u64 k.2.2.1).wf=true):∃L,kpq Tryz.prog (jT k)=some L:=by
 have h:kpq Tryz.prog (jT k)=_:=xM (VI k.1) (VU k.2.1) (VU k.2.2.1) (.bool k.2.2.2);rw [Bn,so,so,xN] at h;simp only [h1,h2,h3] at h;exact ⟨_,h⟩
theorem xO {v:Value} {x:List Lit} (h:Tryz.prog.keyLits Tryz.prog.types.size 2 [v]=some x):∃n,v=VI n∧(Lit.int .i64 n).wf=true:=by
 rw [Bn] at h;cases v <;> simp at h;obtain ⟨⟨rfl,hw⟩,_⟩:=h;exact ⟨_,rfl,hw⟩
theorem pN {v:Value} {x:List Lit} (h:Tryz.prog.keyLits Tryz.prog.types.size 29 [v]=some x):∃n,v=VU n∧(Lit.int .u64 n).wf=true:=by
 rw [so] at h;cases v <;> simp at h;obtain ⟨⟨rfl,hw⟩,_⟩:=h;exact ⟨_,rfl,hw⟩
theorem vV {v:Value} {x:List Lit} (h:Tryz.prog.keyLits Tryz.prog.types.size 4 [v]=some x):∃b,v=.bool b:=by
 rw [xN] at h;cases v <;> simp at h;exact ⟨_,rfl⟩
theorem Gj {v:Value} {L:Lit} (h:kpq Tryz.prog v=some L):∃k,v=jT k:=by
 have no:∀x,kpq Tryz.prog x=none->kpq Tryz.prog x≠some L:=fun x e e'=>by rw [e] at e';cases e'
 cases v
 case agg cs=>
  obtain ⟨l⟩:=cs;rcases l with _ | ⟨a,_ | ⟨b,_ | ⟨c,_ | ⟨d,_ | ⟨_,_⟩⟩⟩⟩⟩
  case cons.cons.cons.cons.nil=>
   have h2:=(xM a b c d).symm.trans h;simp only [Option.map_eq_some_iff,Option.bind_eq_bind,Option.bind_eq_some_iff] at h2;obtain ⟨_,⟨_,⟨_,hx,_,hy,_,hz,_,hu,_⟩,_⟩,_⟩:=h2;obtain ⟨n1,rfl,_⟩:=xO hx;obtain ⟨n2,rfl,_⟩:=pN hy;obtain ⟨n3,rfl,_⟩:=pN hz;obtain ⟨n4,rfl⟩:=vV hu;exact ⟨(n1,n2,n3,n4),rfl⟩
  all_goals exact absurd h (no _ (by kernel_rfl))
 all_goals exact absurd h (no _ (by kernel_rfl))
def RelD (D:DataW Unit) (m:List (dh × aQ)):Prop:=
 ∀k L,kpq Tryz.prog (jT k)=some L->has D L=(ei m k).isSome∧∀r,ei m k=some r->∀z,D.atKey L z=xH r
def IZ (m:List (dh × aQ)):Prop:=∀k r,ei m k=some r->k.1=0∨k.1=1∨k.1=2
def GMap (w:World) (b n:Nat) (m:List (dh × aQ)):Prop:=∃D:DataW Unit,w.ownsMap Tryz.prog 244 xI b n D∧RelD D m∧IZ m
theorem GMap.made (w:World):GMap (w.alloc (.map #[] 0)) w.heap.size 0 []:=⟨_,World.ownsMap_made _ _ _ _,fun k L _=>⟨rfl,fun r h=>by cases h⟩,fun k r h=>by cases h⟩
theorem GMap.mono {w:World} {b n n':Nat} {m:List (dh × aQ)} (h:GMap w b n m) (hn:n<=n'):GMap w b n' m:=let ⟨D,o,r⟩:=h;⟨D,o.mono hn,r⟩
theorem GMap.lt {w:World} {b n:Nat} {m:List (dh × aQ)} (h:GMap w b n m):b<w.heap.size:=let ⟨D,o,r⟩:=h;o.lt
theorem GMap.same {w w':World} {b n:Nat} {m:List (dh × aQ)} (h:GMap w b n m) (hb:w'.heap[b]?=w.heap[b]?):GMap w' b n m:=by
 obtain ⟨D,⟨es,clock,h1,h2⟩,r⟩:=h;exact ⟨D,⟨es,clock,hb.trans h1,h2⟩,r⟩
theorem GMap.blk {w:World} {b n:Nat} {m:List (dh × aQ)} (h:GMap w b n m):∃es c,w.heap[b]?=some (.map es c):=let ⟨D,⟨es,c,h1,_⟩,r⟩:=h;⟨es,c,h1⟩
theorem GMap.keep {w w':World} {b n:Nat} {m:List (dh × aQ)} (h:GMap w b n m) (hb:Bw w w'):GMap w' b n m:=h.same (hb.block b h.lt)
theorem GMap.look {w:World} {b n:Nat} {m:List (dh × aQ)} (h:GMap w b n m) {k:dh} {L:Lit} (hk:kpq Tryz.prog (jT k)=some L):
 (Instr.lookup 70 (.map (some b)) (jT k) true).run Tryz.prog w=.ok (.tuple #[oU ((ei m k).getD (0,0,0)),.bool (ei m k).isSome]) w:=by
 obtain ⟨D,o,r,_⟩:=h;obtain ⟨v,ps,hrun,hv⟩:=o.look_ok (e:=142) lY Tryz.underlying70 (z:=oU (0,0,0)) (by kernel_rfl) (Bm _) hk;obtain ⟨rh,ra⟩:=r k L hk;rw [hrun,rh];obtain ⟨x,rfl,hx⟩:=xJ hv;simp only [Prod.mk.injEq] at hx;cases hf:ei m k with
 | none=>
  rw [hf] at rh;rw [atKey_of_not_has rh] at hx;rw [xK hx.1.symm];rfl
 | some q=>
  rw [ra q hf] at hx;rw [xK hx.1.symm];rfl
theorem RelD.put {D:DataW Unit} {m:List (dh × aQ)} (h:RelD D m) (hD:IsMap D) {k:dh} {L:Lit} (hk:kpq Tryz.prog (jT k)=some L) (r:aQ):RelD (D.put L (xH r)) (pT m k r):=by
 intro k' L' hk';rw [jG];by_cases e:k=k'
 ·subst e;obtain rfl:L=L':=Option.some.inj (hk.symm.trans hk');rw [if_pos rfl];exact ⟨has_put_same hD (lY.key hk) _,fun s hs z=>by cases hs;exact atKey_put_same hD (lY.key hk) _ _⟩
 ·rw [if_neg e];have hne:L'≠L:=fun e'=>e (xL (lY.inj hk (e' ▸ hk')));obtain ⟨a,b⟩:=h k' L' hk';exact ⟨(has_put_other hne _).trans a,fun s hs z=>(atKey_put_other hne _ _).trans (b s hs z)⟩
theorem GMap.put {w:World} {b n:Nat} {m:List (dh × aQ)} (h:GMap w b n m) (hn:n<1048576) {k:dh} {L:Lit} (hk:kpq Tryz.prog (jT k)=some L) (hl:k.1=0∨k.1=1∨k.1=2) (r:aQ):
 ∃w',(Instr.mapUpdate 70 (.map (some b)) (jT k) (oU r)).run Tryz.prog w=.ok () w'∧GMap w' b (n+1) (pT m k r)∧w.grownBy w' (some b):=by
 obtain ⟨D,o,R,V⟩:=h;obtain ⟨w',h1,h2,h3⟩:=o.update (e:=142) lY Tryz.underlying70 (by unfold maxLen;omega) hk (Bm r);refine ⟨w',h1,⟨_,h2,R.put o.isMap hk r,fun k' s hs=>?_⟩,h3⟩;rw [jG] at hs;split at hs
 ·rename_i e;rw [<-e];exact hl
 ·exact V k' s hs
def Ky (cov:dh->Bool) (f:Lit->DataW Unit->Bool):Prop:=∀(k:dh) (L:Lit) (d:DataW Unit),kpq Tryz.prog (jT k)=some L->f L d=cov k
theorem Kx (cov:dh->Bool):∃f,Ky cov f:=by
 refine ⟨fun L _=>@decide (∃k,kpq Tryz.prog (jT k)=some L∧cov k=true) (Classical.propDecidable _),fun k L d hk=>?_⟩;cases hc:cov k
 ·simp only [decide_eq_false_iff_not];rintro ⟨k',h1,h2⟩;rw [xL (lY.inj h1 hk),hc] at h2;cases h2
 ·simp only [decide_eq_true_eq];exact ⟨k,hk,hc⟩
theorem RelD.del {D:DataW Unit} {m:List (dh × aQ)} (h:RelD D m) (hD:IsMap D) (cov:dh->Bool) {f:Lit->DataW Unit->Bool} (hf:Ky cov f):RelD (Lib.deleteFuncD f D) (oJ m cov):=by
 obtain ⟨es,rfl⟩:=hD;intro k L hk;obtain ⟨h1,h2⟩:=h k L hk;rw [jH];have hs:∀p:Lit × DataW Unit,p.1.sameKey L=true->(!f p.1 p.2)=!cov k:=fun p hp=>by
  rw [WideAt.sameKey_eq hp,hf k L _ hk]
 have e1:has (Lib.deleteFuncD f (.map es)) L=(!cov k && has (.map es) L):=by
  show (es.filter fun p=>!f p.1 p.2).any (fun p=>p.1.sameKey L)=(!cov k && es.any fun p=>p.1.sameKey L);clear h1 h2 h
  induction es with
  | nil=>simp
  | cons p ps ih=>
   rw [List.filter_cons];by_cases hp:p.1.sameKey L=true
   ·have:=hs p hp;cases hc:cov k
    ·rw [hc] at this ih;rw [if_pos (by rw [this];rfl)];simp [hp]
    ·rw [hc] at this ih;rw [if_neg (by rw [this];simp),ih];simp
   ·split
    ·simp only [List.any_cons,hp,Bool.false_or];simpa [hp] using ih
    ·simpa [hp] using ih
 have e2:∀z,cov k=false->(Lib.deleteFuncD f (.map es)).atKey L z=DataW.atKey (.map es) L z:=by
  intro z hc;unfold Lib.deleteFuncD DataW.atKey;simp only;rw [find_filter_keep (fun p hp=>by rw [hs p hp,hc];rfl)]
 rw [e1,h1];cases hc:cov k
 ·simp only [Bool.not_false,Bool.true_and,Bool.false_eq_true,if_false,true_and];intro r hr z;rw [e2 z hc];exact h2 r hr z
 ·simp
end
section
open Go.RowKit Go.Maps
attribute [local go_sem ↓] Go.wp_at_zero Go.wp_at_succ
theorem mT (lv va asd:Int) (g:Bool) (w:World) (hl:lv=0∨lv=1∨lv=2) (hv0:0<=va) (hv1:va<=18446744073709551615):
 Calls Tryz.prog 204 #[VI lv,VU va,VU asd,.bool g] w fun e w'=>e=.returned (jT (kq lv (eg va lv) asd g))∧Bw w w':=by
 obtain ⟨tm,htm⟩:∃tm,eg va lv=tm:=⟨_,rfl⟩;have HT:Hid (∀w,Calls Tryz.prog 168 #[VU va,VI lv] w fun e w'=>e=.returned (VU tm)∧∃n,w'=w.drewN n):=fun w=>by
  have:=wD va lv w hv0 hv1 hl;rw [htm] at this;exact this
 rw [htm];clear htm;obtain ⟨v1,Ev1,n1,H1,_⟩:=al1 w #[VI 0,VU 0,VU 0,.bool false] 244;cases g;all_goals
  go_enter Tryz.func204,Tryz.ntmps204;go_wp2_with fail;rw [Ev1.out];clear Ev1;refine (HT.out v1).mono ?_;rintro e v2 ⟨rfl,q,rfl⟩;have n2:Bw w (v1.drewN q):=below_drewN n1 q;have H2:Hid ((v1.drewN q).heap[w.heap.size]?=some (.cells #[VI 0,VU 0,VU 0,.bool false] 244 (0,0))):=H1;generalize v1.drewN q=v2 at n2 H2 |-;obtain ⟨⟨d0,d1,d2,d3⟩,e0,e1,e2,e3⟩:=aP H2.out;go_wp2_with fail
 ·exact bodyPost_ret (v:=.agg #[VI lv,VU tm,VU asd,.bool false]) (by simp [results,Tryz.results204,go_sem,d0,d1,d2,d3]) rfl ⟨rfl,Ff n2 nle _ _ _ _⟩
 ·exact bodyPost_ret (v:=.agg #[VI lv,VU tm,VU 0,.bool true]) (by simp [results,Tryz.results204,go_sem,d0,d1,d2,d3]) rfl ⟨rfl,Ff n2 nle _ _ _ _⟩
theorem FV (r s:aQ) (w:World):(binOp .eql 142 (oU r) (oU s)).run Tryz.prog w=.ok (.bool (decide (r=s))) w:=by
 obtain ⟨a,b,c⟩:=r;obtain ⟨d,e,f⟩:=s;by_cases h1:a=d
 case neg=>(have q1:(a == d)=false:=by simpa using h1);(go_simp;try simp [q1,h1])
 subst h1;by_cases h2:b=e
 case neg=>(have q1:(b == e)=false:=by simpa using h2);(go_simp;try simp [q1,h2])
 subst h2;by_cases h3:c=f
 case neg=>(have q1:(c == f)=false:=by simpa using h3);(go_simp;try simp [q1,h3])
 subst h3;go_simp;try simp
theorem zQ:∀(rs:List aQ) (j:Nat) (r:aQ),rs[j]?=some r->(cG rs)[j*3]?=some (VI r.1)∧(cG rs)[j*3+1]?=some (VU r.2.1)∧(cG rs)[j*3+2]?=some (VU r.2.2)
 | x::rs,0,r,h=>by
  simp at h;subst h;simp [cG,yC]
 | x::rs,j+1,r,h=>by
  have ih:=zQ rs j r (by simpa using h);have e0:(j+1)*3=j*3+3:=by omega
  rw [e0];simpa [cG,yC] using ih
theorem oy {w:World} {b off:Nat} {rs:List aQ} (h:RowC w (some (AD b off)) rs.length 3 (cG rs)) {j:Nat} {r:aQ} (hj:rs[j]?=some r):
 b<w.heap.size∧w.cell? (AD b (off+j*3))=some (VI r.1)∧w.cell? (AD b (off+j*3+1))=some (VU r.2.1)∧w.cell? (AD b (off+j*3+2))=some (VU r.2.2):=by
 have hlt:j<rs.length:=(List.getElem?_eq_some_iff.1 hj).1;obtain ⟨_,h3⟩:=h;rcases h3 with h3 | ⟨b',off',e,hb,hc⟩
 ·omega
 ·cases e;obtain ⟨r1,r2,r3⟩:=zQ rs j r hj;refine ⟨hb,hc _ _ r1,?_,?_⟩
  ·rw [Nat.add_assoc];exact hc _ _ r2
  ·rw [Nat.add_assoc];exact hc _ _ r3
theorem mU {w:World} {a:Option Addr} {n size:Nat} {cs:List Value} (h:RowC w a n size cs) (hn:0<n):∃b off,a=some (AD b off):=by
 obtain ⟨_,h3⟩:=h;rcases h3 with h3 | ⟨b,off,e,_⟩
 ·omega
 ·exact ⟨b,off,e⟩
theorem DZ (a:Option Addr) (rc:Nat) (rs:List aQ) (r:aQ) (w:World) (hr:RowC w a rs.length 3 (cG rs)) (hn:rs.length<=3):
 Calls Tryz.prog 213 #[.slice a rs.length rc,oU r] w fun e w'=>(∃i:Int,e=.returned (VI i)∧decide (0<=i)=decide (r∈rs))∧Bw w w':=by
 obtain ⟨v1,Ev1,n1,H1,l1⟩:=al1 w #[VI r.1,VU r.2.1,VU r.2.2] 142;have HR:=hid hr;clear hr;go_enter Tryz.func213,Tryz.ntmps213;go_wp2_with fail;rw [Ev1.out];clear Ev1;go_loopw [8] (fun i wr=>∃k:Nat,k<=rs.length∧i=VI k∧Hid (∀j,j<k->∀s,rs[j]?=some s->r≠s)∧Bw v1 wr) (fun i _=>rs.length-(intOf i).toNat)
 case atStart=>exact ⟨0,Nat.zero_le _,rfl,fun j h=>absurd h (by omega),brf⟩
 case round=>
  obtain ⟨k,hk,rfl,HK,n2⟩:=hrel;obtain ⟨⟨d0,d1,d2⟩,_,_,_⟩:=aE (ah H1 n2).out;have l2:w.heap.size<wr.heap.size:=by have:=n2.size;omega
  by_cases hlt:k<rs.length
  ·obtain ⟨s,hs⟩:∃s,rs[k]?=some s:=⟨_,geg hlt⟩;obtain ⟨b,off,rfl⟩:=mU HR.out (by omega);obtain ⟨hb,c0,c1,c2⟩:=oy ((HR.out.keep n1).keep n2) hs;have HS:=hid hs;have hq:=FV r s;have hlt':decide ((k:Int)<(rs.length:Int))=true:=by simp;omega
   clear hs;by_cases he:r=s
   ·have he':decide (r=s)=true:=by simpa using he
    rw [he'] at hq;go_upto_region 4 with fail;go_quiet (fail);go_wp2;go_ret;refine ⟨⟨_,rfl,?_⟩,below_drewN (bst n1 n2) _⟩;have:r∈rs:=by rw [he];exact List.mem_of_getElem? HS.out
    simp [this]
   ·have he':decide (r=s)=false:=by simpa using he
    rw [he'] at hq;go_upto_region 4 with fail;go_quiet (fail);go_wp2;go_roundw
    case rel=>
     refine ⟨k+1,by omega,by go_num,fun j hj t ht=>?_,below_drewN n2 _⟩;by_cases e:j=k
     ·subst e;rw [HS.out] at ht;cases ht;exact he
     ·exact HK.out j (by omega) t ht
    case measure=>simp [intOf];omega
  ·have hin:k=rs.length:=by omega
   subst hin;have hlt':decide ((rs.length:Int)<(rs.length:Int))=false:=by simp
   go_wp2;go_ret;refine ⟨⟨_,rfl,?_⟩,bst n1 n2⟩;have:r∉rs:=fun h=>by
    obtain ⟨j,hj⟩:=List.getElem?_of_mem h;exact HK.out j (List.getElem?_eq_some_iff.1 hj).1 _ hj rfl
   simp [this]
theorem xt (a:Option Addr) (rc:Nat) (rs:List aQ) (r:aQ) (w:World) (hr:RowC w a rs.length 3 (cG rs)) (hn:rs.length<=3):
 Calls Tryz.prog 205 #[.slice a rs.length rc,oU r] w fun e w'=>e=.returned (.bool (decide (r∈rs)))∧Bw w w':=by
 obtain ⟨v1,Ev1,n1,H1,l1⟩:=al1 w #[VI r.1,VU r.2.1,VU r.2.2] 142;obtain ⟨⟨d0,d1,d2⟩,_,_,_⟩:=aE H1.out;have HC:=hid (DZ a rc rs r v1 (hr.keep n1) hn);clear hr;go_enter Tryz.func205,Tryz.ntmps205;go_wp2_with fail;rw [Ev1.out];clear Ev1;go_wp2_with fail;refine Calls.mono HC.out ?_;rintro e v2 ⟨⟨i,rfl,hi⟩,n2⟩;have HI:=hid hi;clear hi;go_wp2;go_ret;exact ⟨by rw [HI.out];rfl,bst n1 n2⟩
end
end Go.Proofs.YtkenjknmfhoppaaGreat
