import Derived.Lib.SlMapFilter
import Derived.DeepKeys4
import Derived.Test.YthdgiakgepmabaaGreatPk08
namespace Go.Proofs.YthdgiakgepmabaaGreat
open Go.RowKit
set_option linter.unusedVariables false
set_option maxHeartbeats 6400000
set_option maxRecDepth 20000
abbrev bB:=Int × Int × Int × Bool
def gE (level tag asid:Int) (glob:Bool):bB:=(level,tag,if glob=true then 0 else asid,glob)
def oO (g:aw):bB:=gE g.2.2.2.1 g.1 g.2.1 g.2.2.1
def ck:List (bB × aD)->bB->Option aD
 | [],_=>none
 | e::es,k=>if e.1=k then some e.2 else ck es k
def kq:List (bB × aD)->bB->aD->List (bB × aD)
 | [],k,r=>[(k,r)]
 | e::es,k,r=>if e.1=k then (k,r)::es else e::kq es k r
def jE (m:List (bB × aD)) (cov:bB->Bool):List (bB × aD):=m.filter fun e=>!cov e.1
theorem fR:∀(m:List (bB × aD)) (k:bB) (r:aD) (k':bB),ck (kq m k r) k'=if k=k' then some r else ck m k'
 | [],k,r,k'=>by simp [kq,ck]
 | e::es,k,r,k'=>by
  unfold kq;by_cases h:e.1=k
  ·rw [if_pos h];simp only [ck];by_cases h2:k=k'
   ·rw [if_pos h2,if_pos h2]
   ·rw [if_neg h2,if_neg h2,if_neg (by rw [h];exact h2)]
  ·rw [if_neg h];simp only [ck,fR es k r k'];by_cases h2:k=k'
   ·rw [if_pos h2,if_pos h2,if_neg (by rw [<-h2];exact h)]
   ·rw [if_neg h2,if_neg h2]
theorem fS (cov:bB->Bool):∀(m:List (bB × aD)) (k:bB),ck (jE m cov) k=if cov k=true then none else ck m k
 | [],k=>by simp [jE,ck]
 | e::es,k=>by
  have ih:=fS cov es k;unfold jE at ih |-;rw [List.filter_cons];by_cases h:e.1=k
  ·subst h;by_cases hc:cov e.1=true
   ·rw [if_neg (by simp [hc]),ih,if_pos hc,if_pos hc]
   ·rw [if_pos (by simpa using hc)];simp only [ck];simp [hc]
  ·by_cases hc:cov e.1=true
   ·rw [if_neg (by simp [hc]),ih];simp only [ck,if_neg h]
   ·rw [if_pos (by simpa using hc)];simp only [ck,if_neg h];exact ih
structure RelG (gs:List aw) (m:List (bB × aD)):Prop where
 into:∀g∈gs,ck m (oO g)=some g.2.2.2
 back:∀k r,ck m k=some r->∃g∈gs,oO g=k∧g.2.2.2=r
 level:∀g∈gs,0<=g.2.2.2.1∧g.2.2.2.1<=2
theorem xI:RelG [] []:=⟨fun _ h=>(by cases h),fun _ _ h=>(by simp [ck] at h),fun _ h=>(by cases h)⟩
def fT (m:List (bB × aD)) (recs:List aD) (va asid level:Int) (glob:Bool):Bool:=
 match ck m (gE level (cG va level) asid glob) with
 | none=>false
 | some r=>!decide (r∈recs)
def eh (m:List (bB × aD)) (recs:List aD) (va asid:Int):Bool:=
 ([0,1,2]:List Int).all fun l=>!fT m recs va asid l false && !fT m recs va asid l true
theorem xJ {g:aw} {va asid:Int} (h:dl g va asid=true):oO g=gE g.2.2.2.1 (cG va g.2.2.2.1) asid g.2.2.1:=by
 simp only [dl,Bool.and_eq_true,beq_iff_eq,Bool.or_eq_true] at h;obtain ⟨h1,h2⟩:=h;unfold oO;rw [h1];rcases h2 with h2 | h2
 ·simp [gE,h2]
 ·rw [h2]
theorem rV {g:aw} {va asid level:Int} {glob:Bool} (h:oO g=gE level (cG va level) asid glob):dl g va asid=true∧g.2.2.2.1=level∧g.2.2.1=glob:=by
 simp only [oO,gE,Prod.mk.injEq] at h;obtain ⟨h1,h2,h3,h4⟩:=h;refine ⟨?_,h1,h4⟩;simp only [dl,Bool.and_eq_true,beq_iff_eq,Bool.or_eq_true];refine ⟨by rw [h2,h1],?_⟩;cases hg:g.2.2.1
 ·right;rw [hg] at h3 h4;rw [<-h4] at h3;simpa using h3
 ·exact .inl rfl
theorem rW {gs:List aw} {m:List (bB × aD)} (R:RelG gs m) (h:HartM) (va:Int):eh m (aU h.mem h.satp va).2.2.2 va (aB h.satp)=jT gs h va:=by
 apply Bool.eq_iff_iff.2;constructor
 ·intro hw;unfold jT;rw [List.all_eq_true];intro g hg;cases hf:dl g va (aB h.satp)
  ·rfl
  ·simp only [Bool.not_true,Bool.false_or];have h1:=R.into g hg;rw [xJ hf] at h1;have hl:=R.level g hg;have hm:g.2.2.2.1∈([0,1,2]:List Int):=by
    have:g.2.2.2.1=0∨g.2.2.2.1=1∨g.2.2.2.1=2:=by omega
    rcases this with h | h | h <;> rw [h] <;> decide
   have h2:=List.all_eq_true.1 hw _ hm;simp only [Bool.and_eq_true,Bool.not_eq_true'] at h2;have h3:fT m (aU h.mem h.satp va).2.2.2 va (aB h.satp) g.2.2.2.1 g.2.2.1=false:=by
    cases hb:g.2.2.1
    ·exact h2.1
    ·exact h2.2
   unfold fT at h3;rw [h1] at h3;simpa using h3
 ·intro hl;unfold eh;rw [List.all_eq_true];intro l hlm;have:∀b,fT m (aU h.mem h.satp va).2.2.2 va (aB h.satp) l b=false:=by
   intro b;unfold fT;cases hf:ck m (gE l (cG va l) (aB h.satp) b) with
   | none=>rfl
   | some r=>
    obtain ⟨g,hg,hk,hr⟩:=R.back _ _ hf;have h1:=List.all_eq_true.1 hl g hg;rw [(rV hk).1] at h1;simp only [Bool.not_true,Bool.false_or] at h1;rw [hr] at h1;simpa using h1
  rw [this,this];rfl
theorem rX (zs:List Int) (va:Int):∀(l:Nat) (n:Int),(∀r∈(aN zs va l n).2.2.2,0<=r.1∧r.1<=l)∧∀r∈(aN zs va l n).2.2.2,∀r'∈(aN zs va l n).2.2.2,r.1=r'.1->r=r':=by
 intro l
 induction l with
 | zero=>
  intro n;unfold aN;split
  ·simp
  ·split
   ·simp
   ·split
    ·simp
    ·simp
 | succ k ih=>
  intro n;unfold aN;split
  ·simp
  ·split
   ·simp
   ·split
    ·simp;omega
    ·generalize rdV zs (64*n+8*cg va (k+1:Nat)) 8=x;obtain ⟨i1,i2⟩:=ih (cx x);simp only [List.mem_cons];refine ⟨?_,?_⟩
     ·rintro r (rfl | hr)
      ·simp only;omega
      ·have:=i1 r hr;omega
     ·rintro r (rfl | hr) r' (rfl | hr') he
      ·rfl
      ·have:=i1 r' hr';simp only at he;omega
      ·have:=i1 r hr;simp only at he;omega
      ·exact i2 r hr r' hr' he
theorem rY (zs:List Int) (root va:Int):(∀r∈(aU zs root va).2.2.2,0<=r.1∧r.1<=2)∧∀r∈(aU zs root va).2.2.2,∀r'∈(aU zs root va).2.2.2,r.1=r'.1->r=r':=by
 unfold aU;split
 ·simp
 ·exact rX zs va 2 _
def fU (va asid:Int):List aD->List (bB × aD)->List (bB × aD)
 | [],m=>m
 | r::rs,m=>fU va asid rs (kq m (gE r.1 (cG va r.1) asid (aZ r.2.2 32)) r)
def dG (h:HartM) (kind:Int) (rs:List aD):List aD:=rs.filter fun r=>aV r.2.2 r.1 == 1 || bZ r.2.2 kind h.mode h.sum h.mxr
theorem nk (h:HartM) (kind va:Int) (ws:List aD) (hl:∀r∈ws,0<=r.1∧r.1<=2) (hu:∀r∈ws,∀r'∈ws,r.1=r'.1->r=r'):∀(rs:List aD) (gs:List aw) (m:List (bB × aD)),(∀r∈rs,r∈ws)->RelG gs m->(∀g∈gs,dl g va (aB h.satp)=true->g.2.2.2∈ws)->RelG (fC h kind va rs gs) (fU va (aB h.satp) (dG h kind rs) m)
 | [],gs,m,_,R,_=>R
 | r::rs,gs,m,hs,R,hf=>by
  have hr:=hs r (List.mem_cons_self ..);have hs':∀x∈rs,x∈ws:=fun x hx=>hs x (List.mem_cons_of_mem _ hx);rw [fC,dG,List.filter_cons];by_cases hc:(aV r.2.2 r.1 == 1 || bZ r.2.2 kind h.mode h.sum h.mxr)=true
  ·rw [if_pos hc,if_pos hc];have hk:oO (fk va h.satp r)=gE r.1 (cG va r.1) (aB h.satp) (aZ r.2.2 32):=rfl;have hfit:dl (fk va h.satp r) va (aB h.satp)=true:=by simp [dl,fk]
   have hmem:∀g,g∈yk gs (fk va h.satp r)↔g∈gs∨g=fk va h.satp r:=by
    intro g;unfold yk;split
    ·rename_i hin;constructor
     ·exact .inl
     ·rintro (h | rfl)
      ·exact h
      ·exact hin
    ·simp
   refine nk h kind va ws hl hu rs _ _ hs' ⟨?_,?_,?_⟩ ?_
   ·intro g hg;rw [fR];rcases (hmem g).1 hg with hg | rfl
    ·by_cases he:gE r.1 (cG va r.1) (aB h.satp) (aZ r.2.2 32)=oO g
     ·rw [if_pos he];have f:=rV he.symm;rw [hu _ (hf g hg f.1) _ hr f.2.1]
     ·rw [if_neg he];exact R.into g hg
    ·rw [if_pos hk.symm];rfl
   ·intro k x hx;rw [fR] at hx;split at hx
    ·rename_i he;exact ⟨_,(hmem _).2 (.inr rfl),by rw [<-he];rfl,by simpa [fk] using hx⟩
    ·obtain ⟨g,hg,h1,h2⟩:=R.back k x hx;exact ⟨g,(hmem g).2 (.inl hg),h1,h2⟩
   ·intro g hg;rcases (hmem g).1 hg with hg | rfl
    ·exact R.level g hg
    ·exact hl r hr
   ·intro g hg hfi;rcases (hmem g).1 hg with hg | rfl
    ·exact hf g hg hfi
    ·exact hr
  ·rw [if_neg hc,if_neg hc];exact nk h kind va ws hl hu rs gs m hs' R hf
theorem vN {gs:List aw} {m:List (bB × aD)} (R:RelG gs m) (h:HartM) (kind va:Int) (hw:jT gs h va=true):RelG (fC h kind va (aU h.mem h.satp va).2.2.2 gs) (fU va (aB h.satp) (dG h kind (aU h.mem h.satp va).2.2.2) m):=by
 obtain ⟨hl,hu⟩:=rY h.mem h.satp va;refine nk h kind va _ hl hu _ gs m (fun _ h=>h) R fun g hg hf=>?_;have:=List.all_eq_true.1 hw g hg;rw [hf] at this;simpa using this
def dU (f:FenceM) (k:bB):Bool:=ei f k.1 k.2.1 k.2.2.1 k.2.2.2
theorem pC (f:FenceM) (g:aw):dU f (oO g)=ei f g.2.2.2.1 g.1 g.2.1 g.2.2.1:=by
 unfold dU oO gE;cases hg:g.2.2.1
 ·simp
 ·simp [ei]
theorem vO {gs:List aw} {m:List (bB × aD)} (R:RelG gs m) (f:FenceM):RelG (gx gs f) (jE m (dU f)):=by
 refine ⟨?_,?_,?_⟩
 ·intro g hg;simp only [gx,List.mem_filter,Bool.not_eq_true'] at hg;rw [fS,pC,hg.2];simp only [Bool.false_eq_true,if_false];exact R.into g hg.1
 ·intro k r hr;rw [fS] at hr;split at hr
  ·cases hr
  ·rename_i hc;obtain ⟨g,hg,h1,h2⟩:=R.back k r hr;refine ⟨g,?_,h1,h2⟩;simp only [gx,List.mem_filter,Bool.not_eq_true'];refine ⟨hg,?_⟩;rw [<-pC,h1];simpa using hc
 ·intro g hg;simp only [gx,List.mem_filter] at hg;exact R.level g hg.1
section
open Go.RowKit Go.Maps
abbrev gk (k:bB):Value:=.agg #[VI k.1,VU k.2.1,VU k.2.2.1,.bool k.2.2.2]
abbrev kf (r:aD):Value:=.agg #[VI r.1,VU r.2.1,VU r.2.2]
def rj (r:aD):DataW Unit:=.agg [.lit (.int .i64 r.1),.lit (.int .u64 r.2.1),.lit (.int .u64 r.2.2)]
def rl:Value->Option (DataW Unit × List MemPlace)
 | .agg ⟨[.int .i64 l,.int .u64 a,.int .u64 v]⟩=>some (rj (l,a,v),[])
 | _=>none
theorem ux (r:aD):rl (kf r)=some (rj r,[]):=rfl
theorem rn {v:Value} {z:DataW Unit × List MemPlace} (h:rl v=some z):∃r,v=kf r∧z=(rj r,[]):=by
 unfold rl at h;split at h
 ·cases h;exact ⟨(_,_,_),rfl,rfl⟩
 ·cases h
theorem rq {r s:aD} (h:rj r=rj s):r=s:=by
 obtain ⟨a,b,c⟩:=r;obtain ⟨d,e,f⟩:=s;simp only [rj,DataW.agg.injEq,List.cons.injEq,DataW.lit.injEq,Lit.int.injEq,true_and,and_true] at h;obtain ⟨rfl,rfl,rfl⟩:=h;rfl
theorem rr {k l:bB} (h:gk k=gk l):k=l:=by
 obtain ⟨a,b,c,d⟩:=k;obtain ⟨e,f,g,i⟩:=l;simp only [gk,Value.agg.injEq,Array.mk.injEq,List.cons.injEq,Value.int.injEq,Value.bool.injEq,true_and,and_true] at h;obtain ⟨rfl,rfl,rfl,rfl⟩:=h;rfl
theorem iC:Keyed Tryz.prog 214:=Keyed.of_law (deep_law (m:=3) (by decide) (by kernel_rfl) (by kernel_rfl) (by kernel_rfl))
noncomputable abbrev keyO (v:Value):Option Lit:=keyOf Tryz.prog 214 v
theorem rt (a b c d:Value):keyO (.agg #[a,b,c,d])=((do
 let x <-Tryz.prog.keyLits Tryz.prog.types.size 2 [a]
 let y <-Tryz.prog.keyLits Tryz.prog.types.size 33 [b]
 let z <-Tryz.prog.keyLits Tryz.prog.types.size 33 [c]
 let u <-Tryz.prog.keyLits Tryz.prog.types.size 4 [d]
 pure [x,y,z,u]:Option (List (List Lit))).map List.flatten).map fun ls=>.string (keyBytes ls):=by
 kernel_rfl
theorem uy (v:Value):Tryz.prog.keyLits Tryz.prog.types.size 2 [v]=match v with | .int q n=>if q=.i64∧(Lit.int .i64 n).wf=true then some [.int .i64 n] else none | _=>none:=by
 cases v <;> kernel_rfl
theorem mA (v:Value):Tryz.prog.keyLits Tryz.prog.types.size 33 [v]=match v with | .int q n=>if q=.u64∧(Lit.int .u64 n).wf=true then some [.int .u64 n] else none | _=>none:=by
 cases v <;> kernel_rfl
theorem ru (v:Value):Tryz.prog.keyLits Tryz.prog.types.size 4 [v]=match v with | .bool b=>some [.bool b] | _=>none:=by
 cases v <;> kernel_rfl
theorem Aa {k:bB} (h1:(Lit.int .i64 k.1).wf=true) (h2:(Lit.int .u64 k.2.1).wf=true) (h3:(Lit.int .u64 k.2.2.1).wf=true):∃L,keyO (gk k)=some L:=by
 have h:keyO (gk k)=_:=rt (VI k.1) (VU k.2.1) (VU k.2.2.1) (.bool k.2.2.2);rw [uy,mA,mA,ru] at h;simp only [h1,h2,h3] at h;exact ⟨_,h⟩
theorem rx {v:Value} {x:List Lit} (h:Tryz.prog.keyLits Tryz.prog.types.size 2 [v]=some x):∃n,v=VI n∧(Lit.int .i64 n).wf=true:=by
 rw [uy] at h;cases v <;> simp at h;obtain ⟨⟨rfl,hw⟩,_⟩:=h;exact ⟨_,rfl,hw⟩
theorem kh {v:Value} {x:List Lit} (h:Tryz.prog.keyLits Tryz.prog.types.size 33 [v]=some x):∃n,v=VU n∧(Lit.int .u64 n).wf=true:=by
 rw [mA] at h;cases v <;> simp at h;obtain ⟨⟨rfl,hw⟩,_⟩:=h;exact ⟨_,rfl,hw⟩
theorem qd {v:Value} {x:List Lit} (h:Tryz.prog.keyLits Tryz.prog.types.size 4 [v]=some x):∃b,v=.bool b:=by
 rw [ru] at h;cases v <;> simp at h;exact ⟨_,rfl⟩
theorem yP {v:Value} {L:Lit} (h:keyO v=some L):∃k,v=gk k:=by
 have no:∀x,keyO x=none->keyO x≠some L:=fun x e e'=>by rw [e] at e';cases e'
 cases v
 case agg cs=>
  obtain ⟨l⟩:=cs;rcases l with _ | ⟨a,_ | ⟨b,_ | ⟨c,_ | ⟨d,_ | ⟨_,_⟩⟩⟩⟩⟩
  case cons.cons.cons.cons.nil=>
   have h2:=(rt a b c d).symm.trans h;simp only [Option.map_eq_some_iff,Option.bind_eq_bind,Option.bind_eq_some_iff] at h2;obtain ⟨_,⟨_,⟨_,hx,_,hy,_,hz,_,hu,_⟩,_⟩,_⟩:=h2;obtain ⟨n1,rfl,_⟩:=rx hx;obtain ⟨n2,rfl,_⟩:=kh hy;obtain ⟨n3,rfl,_⟩:=kh hz;obtain ⟨n4,rfl⟩:=qd hu;exact ⟨(n1,n2,n3,n4),rfl⟩
  all_goals exact absurd h (no _ (by kernel_rfl))
 all_goals exact absurd h (no _ (by kernel_rfl))
def RelD (D:DataW Unit) (m:List (bB × aD)):Prop:=
 ∀k L,keyO (gk k)=some L->has D L=(ck m k).isSome∧∀r,ck m k=some r->∀z,D.atKey L z=rj r
def AA (m:List (bB × aD)):Prop:=∀k r,ck m k=some r->k.1=0∨k.1=1∨k.1=2
def GMap (w:World) (b n:Nat) (m:List (bB × aD)):Prop:=∃D:DataW Unit,w.ownsMap Tryz.prog 214 rl b n D∧RelD D m∧AA m
theorem GMap.made (w:World):GMap (w.alloc (.map #[] 0)) w.heap.size 0 []:=⟨_,World.ownsMap_made _ _ _ _,fun k L _=>⟨rfl,fun r h=>by cases h⟩,fun k r h=>by cases h⟩
theorem GMap.mono {w:World} {b n n':Nat} {m:List (bB × aD)} (h:GMap w b n m) (hn:n<=n'):GMap w b n' m:=let ⟨D,o,r⟩:=h;⟨D,o.mono hn,r⟩
theorem GMap.lt {w:World} {b n:Nat} {m:List (bB × aD)} (h:GMap w b n m):b<w.heap.size:=let ⟨D,o,r⟩:=h;o.lt
theorem GMap.same {w w':World} {b n:Nat} {m:List (bB × aD)} (h:GMap w b n m) (hb:w'.heap[b]?=w.heap[b]?):GMap w' b n m:=by
 obtain ⟨D,⟨es,clock,h1,h2⟩,r⟩:=h;exact ⟨D,⟨es,clock,hb.trans h1,h2⟩,r⟩
theorem GMap.blk {w:World} {b n:Nat} {m:List (bB × aD)} (h:GMap w b n m):∃es c,w.heap[b]?=some (.map es c):=let ⟨D,⟨es,c,h1,_⟩,r⟩:=h;⟨es,c,h1⟩
theorem GMap.keep {w w':World} {b n:Nat} {m:List (bB × aD)} (h:GMap w b n m) (hb:Bw w w'):GMap w' b n m:=h.same (hb.block b h.lt)
theorem GMap.look {w:World} {b n:Nat} {m:List (bB × aD)} (h:GMap w b n m) {k:bB} {L:Lit} (hk:keyO (gk k)=some L):
 (Instr.lookup 63 (.map (some b)) (gk k) true).run Tryz.prog w=.ok (.tuple #[kf ((ck m k).getD (0,0,0)),.bool (ck m k).isSome]) w:=by
 obtain ⟨D,o,r,_⟩:=h;obtain ⟨v,ps,hrun,hv⟩:=o.look_ok (e:=118) iC Tryz.underlying63 (z:=kf (0,0,0)) (by kernel_rfl) (ux _) hk;obtain ⟨rh,ra⟩:=r k L hk;rw [hrun,rh];obtain ⟨x,rfl,hx⟩:=rn hv;simp only [Prod.mk.injEq] at hx;cases hf:ck m k with
 | none=>
  rw [hf] at rh;rw [atKey_of_not_has rh] at hx;rw [rq hx.1.symm];rfl
 | some q=>
  rw [ra q hf] at hx;rw [rq hx.1.symm];rfl
theorem RelD.put {D:DataW Unit} {m:List (bB × aD)} (h:RelD D m) (hD:IsMap D) {k:bB} {L:Lit} (hk:keyO (gk k)=some L) (r:aD):RelD (D.put L (rj r)) (kq m k r):=by
 intro k' L' hk';rw [fR];by_cases e:k=k'
 ·subst e;obtain rfl:L=L':=Option.some.inj (hk.symm.trans hk');rw [if_pos rfl];exact ⟨has_put_same hD (iC.key hk) _,fun s hs z=>by cases hs;exact atKey_put_same hD (iC.key hk) _ _⟩
 ·rw [if_neg e];have hne:L'≠L:=fun e'=>e (rr (iC.inj hk (e' ▸ hk')));obtain ⟨a,b⟩:=h k' L' hk';exact ⟨(has_put_other hne _).trans a,fun s hs z=>(atKey_put_other hne _ _).trans (b s hs z)⟩
theorem GMap.put {w:World} {b n:Nat} {m:List (bB × aD)} (h:GMap w b n m) (hn:n<1048576) {k:bB} {L:Lit} (hk:keyO (gk k)=some L) (hl:k.1=0∨k.1=1∨k.1=2) (r:aD):
 ∃w',(Instr.mapUpdate 63 (.map (some b)) (gk k) (kf r)).run Tryz.prog w=.ok () w'∧GMap w' b (n+1) (kq m k r)∧w.grownBy w' (some b):=by
 obtain ⟨D,o,R,V⟩:=h;obtain ⟨w',h1,h2,h3⟩:=o.update (e:=118) iC Tryz.underlying63 (by unfold maxLen;omega) hk (ux r);refine ⟨w',h1,⟨_,h2,R.put o.isMap hk r,fun k' s hs=>?_⟩,h3⟩;rw [fR] at hs;split at hs
 ·rename_i e;rw [<-e];exact hl
 ·exact V k' s hs
noncomputable def covL (cov:bB->Bool) (L:Lit) (_:DataW Unit):Bool:=@decide (∃k,keyO (gk k)=some L∧cov k=true) (Classical.propDecidable _)
theorem uz (cov:bB->Bool) {k:bB} {L:Lit} (hk:keyO (gk k)=some L) (d:DataW Unit):covL cov L d=cov k:=by
 unfold covL;cases hc:cov k
 ·simp only [decide_eq_false_iff_not];rintro ⟨k',h1,h2⟩;rw [rr (iC.inj h1 hk),hc] at h2;cases h2
 ·simp only [decide_eq_true_eq];exact ⟨k,hk,hc⟩
theorem RelD.del {D:DataW Unit} {m:List (bB × aD)} (h:RelD D m) (hD:IsMap D) (cov:bB->Bool):RelD (Lib.deleteFuncD (covL cov) D) (jE m cov):=by
 obtain ⟨es,rfl⟩:=hD;intro k L hk;obtain ⟨h1,h2⟩:=h k L hk;rw [fS];have hs:∀p:Lit × DataW Unit,p.1.sameKey L=true->(!covL cov p.1 p.2)=!cov k:=fun p hp=>by
  rw [WideAt.sameKey_eq hp,uz cov hk]
 have e1:has (Lib.deleteFuncD (covL cov) (.map es)) L=(!cov k && has (.map es) L):=by
  show (es.filter fun p=>!covL cov p.1 p.2).any (fun p=>p.1.sameKey L)=(!cov k && es.any fun p=>p.1.sameKey L);clear h1 h2 h
  induction es with
  | nil=>simp
  | cons p ps ih=>
   rw [List.filter_cons];by_cases hp:p.1.sameKey L=true
   ·have:=hs p hp;cases hc:cov k
    ·rw [hc] at this ih;rw [if_pos (by rw [this];rfl)];simp [hp]
    ·rw [hc] at this ih;rw [if_neg (by rw [this];simp),ih];simp
   ·split
    ·simp only [List.any_cons,hp,Bool.false_or];simpa [hp] using ih
    ·simpa [hp] using ih
 have e2:∀z,cov k=false->(Lib.deleteFuncD (covL cov) (.map es)).atKey L z=DataW.atKey (.map es) L z:=by
  intro z hc;unfold Lib.deleteFuncD DataW.atKey;simp only;rw [find_filter_keep (fun p hp=>by rw [hs p hp,hc];rfl)]
 rw [e1,h1];cases hc:cov k
 ·simp only [Bool.not_false,Bool.true_and,Bool.false_eq_true,if_false,true_and];intro r hr z;rw [e2 z hc];exact h2 r hr z
 ·simp
end
section
open Go.RowKit Go.Maps
attribute [local go_sem ↓] Go.wp_at_zero Go.wp_at_succ
theorem iY (lv va asd:Int) (g:Bool) (w:World) (hl:lv=0∨lv=1∨lv=2) (hv0:0<=va) (hv1:va<=18446744073709551615):
 Calls Tryz.prog 171 #[VI lv,VU va,VU asd,.bool g] w fun e w'=>e=.returned (gk (gE lv (cG va lv) asd g))∧Bw w w':=by
 obtain ⟨tm,htm⟩:∃tm,cG va lv=tm:=⟨_,rfl⟩;have HT:Hid (∀w,Calls Tryz.prog 133 #[VU va,VI lv] w fun e w'=>e=.returned (VU tm)∧∃n,w'=w.drewN n):=fun w=>by
  have:=qy va lv w hv0 hv1 hl;rw [htm] at this;exact this
 rw [htm];clear htm;obtain ⟨v1,Ev1,n1,H1,_⟩:=al1 w #[VI 0,VU 0,VU 0,.bool false] 214;cases g;all_goals
  go_enter Tryz.func171,Tryz.ntmps171;go_wp2_with fail;rw [Ev1.out];clear Ev1;refine (HT.out v1).mono ?_;rintro e v2 ⟨rfl,q,rfl⟩;have n2:Bw w (v1.drewN q):=below_drewN n1 q;have H2:Hid ((v1.drewN q).heap[w.heap.size]?=some (.cells #[VI 0,VU 0,VU 0,.bool false] 214 (0,0))):=H1;generalize v1.drewN q=v2 at n2 H2 |-;obtain ⟨⟨d0,d1,d2,d3⟩,e0,e1,e2,e3⟩:=aO H2.out;go_wp2_with fail
 ·exact bodyPost_ret (v:=.agg #[VI lv,VU tm,VU asd,.bool false]) (by simp [results,Tryz.results171,go_sem,d0,d1,d2,d3]) rfl ⟨rfl,xX n2 nle _ _ _ _⟩
 ·exact bodyPost_ret (v:=.agg #[VI lv,VU tm,VU 0,.bool true]) (by simp [results,Tryz.results171,go_sem,d0,d1,d2,d3]) rfl ⟨rfl,xX n2 nle _ _ _ _⟩
theorem Av (r s:aD) (w:World):(binOp .eql 118 (kf r) (kf s)).run Tryz.prog w=.ok (.bool (decide (r=s))) w:=by
 obtain ⟨a,b,c⟩:=r;obtain ⟨d,e,f⟩:=s;by_cases h1:a=d
 case neg=>(have q1:(a == d)=false:=by simpa using h1);(go_simp;try simp [q1,h1])
 subst h1;by_cases h2:b=e
 case neg=>(have q1:(b == e)=false:=by simpa using h2);(go_simp;try simp [q1,h2])
 subst h2;by_cases h3:c=f
 case neg=>(have q1:(c == f)=false:=by simpa using h3);(go_simp;try simp [q1,h3])
 subst h3;go_simp;try simp
theorem tn:∀(rs:List aD) (j:Nat) (r:aD),rs[j]?=some r->(bu rs)[j*3]?=some (VI r.1)∧(bu rs)[j*3+1]?=some (VU r.2.1)∧(bu rs)[j*3+2]?=some (VU r.2.2)
 | x::rs,0,r,h=>by
  simp at h;subst h;simp [bu,tR]
 | x::rs,j+1,r,h=>by
  have ih:=tn rs j r (by simpa using h);have e0:(j+1)*3=j*3+3:=by omega
  rw [e0];simpa [bu,tR] using ih
theorem pV {w:World} {b off:Nat} {rs:List aD} (h:RowC w (some (AD b off)) rs.length 3 (bu rs)) {j:Nat} {r:aD} (hj:rs[j]?=some r):
 b<w.heap.size∧w.cell? (AD b (off+j*3))=some (VI r.1)∧w.cell? (AD b (off+j*3+1))=some (VU r.2.1)∧w.cell? (AD b (off+j*3+2))=some (VU r.2.2):=by
 have hlt:j<rs.length:=(List.getElem?_eq_some_iff.1 hj).1;obtain ⟨_,h3⟩:=h;rcases h3 with h3 | ⟨b',off',e,hb,hc⟩
 ·omega
 ·cases e;obtain ⟨r1,r2,r3⟩:=tn rs j r hj;refine ⟨hb,hc _ _ r1,?_,?_⟩
  ·rw [Nat.add_assoc];exact hc _ _ r2
  ·rw [Nat.add_assoc];exact hc _ _ r3
theorem tq {w:World} {a:Option Addr} {n size:Nat} {cs:List Value} (h:RowC w a n size cs) (hn:0<n):∃b off,a=some (AD b off):=by
 obtain ⟨_,h3⟩:=h;rcases h3 with h3 | ⟨b,off,e,_⟩
 ·omega
 ·exact ⟨b,off,e⟩
theorem wM (a:Option Addr) (rc:Nat) (rs:List aD) (r:aD) (w:World) (hr:RowC w a rs.length 3 (bu rs)) (hn:rs.length<=3):
 Calls Tryz.prog 180 #[.slice a rs.length rc,kf r] w fun e w'=>(∃i:Int,e=.returned (VI i)∧decide (0<=i)=decide (r∈rs))∧Bw w w':=by
 obtain ⟨v1,Ev1,n1,H1,l1⟩:=al1 w #[VI r.1,VU r.2.1,VU r.2.2] 118;have HR:=hid hr;clear hr;go_enter Tryz.func180,Tryz.ntmps180;go_wp2_with fail;rw [Ev1.out];clear Ev1;go_loopw [8] (fun i wr=>∃k:Nat,k<=rs.length∧i=VI k∧Hid (∀j,j<k->∀s,rs[j]?=some s->r≠s)∧Bw v1 wr) (fun i _=>rs.length-(intOf i).toNat)
 case atStart=>exact ⟨0,Nat.zero_le _,rfl,fun j h=>absurd h (by omega),brf⟩
 case round=>
  obtain ⟨k,hk,rfl,HK,n2⟩:=hrel;obtain ⟨⟨d0,d1,d2⟩,_,_,_⟩:=au (ae H1 n2).out;have l2:w.heap.size<wr.heap.size:=by have:=n2.size;omega
  by_cases hlt:k<rs.length
  ·obtain ⟨s,hs⟩:∃s,rs[k]?=some s:=⟨_,geg hlt⟩;obtain ⟨b,off,rfl⟩:=tq HR.out (by omega);obtain ⟨hb,c0,c1,c2⟩:=pV ((HR.out.keep n1).keep n2) hs;have HS:=hid hs;have hq:=Av r s;have hlt':decide ((k:Int)<(rs.length:Int))=true:=by simp;omega
   clear hs;by_cases he:r=s
   ·have he':decide (r=s)=true:=by simpa using he
    rw [he'] at hq;go_upto_region 4 with fail;go_quiet (fail);go_wp2;go_ret;refine ⟨⟨_,rfl,?_⟩,below_drewN (bst n1 n2) _⟩;have:r∈rs:=by rw [he];exact List.mem_of_getElem? HS.out
    simp [this]
   ·have he':decide (r=s)=false:=by simpa using he
    rw [he'] at hq;go_upto_region 4 with fail;go_quiet (fail);go_wp2;go_roundw
    case rel=>
     refine ⟨k+1,by omega,by go_num,fun j hj t ht=>?_,below_drewN n2 _⟩;by_cases e:j=k
     ·subst e;rw [HS.out] at ht;cases ht;exact he
     ·exact HK.out j (by omega) t ht
    case measure=>simp [intOf];omega
  ·have hin:k=rs.length:=by omega
   subst hin;have hlt':decide ((rs.length:Int)<(rs.length:Int))=false:=by simp
   go_wp2;go_ret;refine ⟨⟨_,rfl,?_⟩,bst n1 n2⟩;have:r∉rs:=fun h=>by
    obtain ⟨j,hj⟩:=List.getElem?_of_mem h;exact HK.out j (List.getElem?_eq_some_iff.1 hj).1 _ hj rfl
   simp [this]
theorem qU (a:Option Addr) (rc:Nat) (rs:List aD) (r:aD) (w:World) (hr:RowC w a rs.length 3 (bu rs)) (hn:rs.length<=3):
 Calls Tryz.prog 172 #[.slice a rs.length rc,kf r] w fun e w'=>e=.returned (.bool (decide (r∈rs)))∧Bw w w':=by
 obtain ⟨v1,Ev1,n1,H1,l1⟩:=al1 w #[VI r.1,VU r.2.1,VU r.2.2] 118;obtain ⟨⟨d0,d1,d2⟩,_,_,_⟩:=au H1.out;have HC:=hid (wM a rc rs r v1 (hr.keep n1) hn);clear hr;go_enter Tryz.func172,Tryz.ntmps172;go_wp2_with fail;rw [Ev1.out];clear Ev1;go_wp2_with fail;refine Calls.mono HC.out ?_;rintro e v2 ⟨⟨i,rfl,hi⟩,n2⟩;have HI:=hid hi;clear hi;go_wp2;go_ret;exact ⟨by rw [HI.out];rfl,bst n1 n2⟩
end
section
open Go.RowKit Go.Maps
attribute [local go_sem ↓] Go.wp_at_zero Go.wp_at_succ
theorem Aq (va lv:Int) (hl:lv=0∨lv=1∨lv=2):(Lit.int .u64 (cG va lv)).wf=true:=by
 have:=kz va lv hl;exact WalkArith.wf_u64 (by omega)
theorem uN (va asd lv:Int) (g:Bool) (hl:lv=0∨lv=1∨lv=2) (h0:0<=asd) (h1:asd<=65535):∃L,keyO (gk (gE lv (cG va lv) asd g))=some L:=by
 refine Aa ?_ (Aq va lv hl) ?_
 ·exact WalkArith.wf_i64 (n:=lv) (by omega)
 ·cases g
  ·exact WalkArith.wf_u64 (n:=asd) (by omega)
  ·exact WalkArith.wf_u64 (n:=0) (by omega)
theorem zw (m:List (bB × aD)) (rs:List aD) (va asd lv:Int) (g:Bool):
 fT m rs va asd lv g=((ck m (gE lv (cG va lv) asd g)).isSome && !decide ((ck m (gE lv (cG va lv) asd g)).getD (0,0,0)∈rs)):=by
 unfold fT;cases ck m (gE lv (cG va lv) asd g) <;> simp
theorem qI {m:List (bB × aD)} {rs:List aD} {va asd:Int} {l:Nat} {g:Bool} (hl:l<3) (h:fT m rs va asd l g=true):eh m rs va asd=false:=by
 unfold eh;have:l=0∨l=1∨l=2:=by omega
 rcases this with rfl | rfl | rfl <;> cases g <;> simp_all
theorem sB {m:List (bB × aD)} {rs:List aD} {va asd:Int} (h:∀l:Nat,l<3->∀g,fT m rs va asd l g=false):eh m rs va asd=true:=by
 have h0:=h 0 (by omega);have h1:=h 1 (by omega);have h2:=h 2 (by omega);unfold eh;simp only [Int.natCast_zero] at h0 h1 h2
 simp_all
theorem uO (v:World) (r:aD):∃v',(Instr.storeAt 118 (PT v.heap.size 0) (kf r)).run Tryz.prog (v.alloc (Obj.cells #[VI 0,VU 0,VU 0] 118))=.ok () v'∧v'.heap[v.heap.size]?=some (.cells #[VI r.1,VU r.2.1,VU r.2.2] 118 (0,0))∧v.heap.size<v'.heap.size∧Bw v v':=by
 have a:=bN v #[VI 0,VU 0,VU 0] 118;refine ⟨_,dh (P:=Tryz.prog) (T:=118) a.1 (by kernel_rfl) rfl (by simp [Value.oneCell']),cD a.1 rfl,?_,dn nle _ _ _ a.2.2⟩;rw [fP,a.2.1];exact Nat.lt_succ_self _
theorem tZ (mb n:Nat) (gm:List (bB × aD)) (a:Option Addr) (rc:Nat) (rs:List aD) (va asd:Int) (w:World) (hg:GMap w mb n gm) (hr:RowC w a rs.length 3 (bu rs)) (hn:rs.length<=3) (hv0:0<=va) (hv1:va<=18446744073709551615) (h0:0<=asd) (h1:asd<=65535):
 Calls Tryz.prog 165 #[.map (some mb),.slice a rs.length rc,VU va,VU asd] w fun e w'=>e=.returned (.bool (eh gm rs va asd))∧Bw w w':=by
 have HG:=hid hg;have HR:=hid hr;obtain ⟨X,hX⟩:∃X,eh gm rs va asd=X:=⟨_,rfl⟩;have HX:=hid hX;rw [hX];clear hX hg hr;go_enter Tryz.func165,Tryz.ntmps165;go_wp2;go_loopw [14] (fun i wr=>∃l:Nat,l<=3∧i=VI l∧Hid (∀l':Nat,l'<l->∀g,fT gm rs va asd l' g=false)∧Bw w wr) (fun i _=>3-(intOf i).toNat)
 case atStart=>exact ⟨0,by omega,rfl,fun l' h=>absurd h (by omega),brf⟩
 case round=>
  obtain ⟨l,hl,rfl,HL,nw⟩:=hrel;by_cases hlt:l<3
  ·have hl3:(l:Int)=0∨(l:Int)=1∨(l:Int)=2:=by omega
   have hlt':decide ((l:Int)<3)=true:=by simp;omega
   go_wp2_with fail;rename_i wr0;go_loopw [18] (fun i wr=>∃j:Nat,j<=2∧i=VI j∧Hid (∀g:Bool,(if g=true then 1 else 0)<j->fT gm rs va asd l g=false)∧Bw w wr) (fun i _=>2-(intOf i).toNat)
   case atStart=>exact ⟨0,by omega,rfl,fun g h=>absurd h (by omega),nw⟩
   case round=>
    obtain ⟨j,hj,rfl,HJ,nr⟩:=hrel;by_cases hjt:j<2
    ·obtain ⟨g,hgj⟩:∃g:Bool,j=if g=true then 1 else 0:=by
      rcases (show j=0∨j=1 by omega) with rfl | rfl
      ·exact ⟨false,rfl⟩
      ·exact ⟨true,rfl⟩
     obtain ⟨L,hL⟩:=uN va asd l g hl3 h0 h1;have HK:=hid fun u (hu:Bw wr u)=>GMap.look ((HG.out.keep nr).keep hu) hL;have HC:=hid fun u=>iY l va asd g u hl3 hv0 hv1;have HM:=hid (zw gm rs va asd l g);generalize gk (gE l (cG va l) asd g)=KV at HK HC;generalize ck gm (gE l (cG va l) asd g)=fd at HK HM;obtain ⟨⟨x1,x2,x3⟩,hR⟩:∃R,fd.getD (0,0,0)=R:=⟨_,rfl⟩;obtain ⟨f,hf⟩:∃f,fd.isSome=f:=⟨_,rfl⟩;rw [hR,hf] at HK HM;clear hR hf hL;have HJn:Hid (fT gm rs va asd l g=false->∀g':Bool,(if g'=true then 1 else 0)<j+1->fT gm rs va asd l g'=false):=fun h g' hg'=>by
      by_cases e:g'=g
      ·rw [e];exact h
      ·exact HJ.out g' (by cases g <;> cases g' <;> simp_all)
     have HIx:Hid (∀u,(Instr.index 291 (.agg #[.bool false,.bool true]) (VI j)).run Tryz.prog u=.ok (.bool g) u):=fun u=>by
      rw [hgj];cases g <;> kernel_rfl
     have hjt':decide ((j:Int)<2)=true:=by simp;omega
     have hix:=HIx.out;clear hgj;go_wp2_with fail;refine (HC.out wr).mono ?_;rintro e v1 ⟨rfl,n1⟩;have hlk:=HK.out v1 n1;obtain ⟨v3,hs3,P3,l3,n3⟩:=uO v1 (x1,x2,x3);have HS3:=hid hs3;have n4:=bst n1 n3;clear hs3;cases f
     ·have HN:Hid (fT gm rs va asd l g=false):=by show _=_;rw [HM.out];rfl
      go_upto_region 8 with (first | ((with_reducible refine bI ?_ ?_ HS3.out ?_);(exact rfl);(exact rfl)));go_wp2;go_roundw
      case rel=>exact ⟨j+1,by omega,by go_num,HJn.out HN.out,bst nr n4⟩
      case measure=>simp [intOf];omega
     ·go_upto_region 8 with (first | ((with_reducible refine bI ?_ ?_ HS3.out ?_);(exact rfl);(exact rfl)));obtain ⟨⟨d0,d1,d2⟩,f0,f1,f2⟩:=au P3;have CN:=hid (qU a rc rs (x1,x2,x3) v3 (HR.out.keep (bst nr n4)) hn);simp only [Bool.true_and] at HM;clear P3 hlk;generalize decide ((x1,x2,x3)∈rs)=dd at CN HM;go_wp2_with fail;refine Calls.mono CN.out ?_;rintro e v4 ⟨rfl,n5⟩;have n6:=bst n4 n5;cases dd
      ·go_wp2;go_ret;exact ⟨by rw [<-HX.out,qI hlt HM.out];rfl,bst nr n6⟩
      ·go_wp2;go_roundw
       case rel=>exact ⟨j+1,by omega,by go_num,HJn.out HM.out,bst nr n6⟩
       case measure=>simp [intOf];omega
    ·have hin:j=2:=by omega
     subst hin;go_wp2;go_roundw
     case rel=>
      refine ⟨l+1,by omega,by go_num,fun l' hl' g=>?_,nr⟩;by_cases e:l'=l
      ·rw [e];exact HJ.out g (by cases g <;> simp)
      ·exact HL.out l' (by omega) g
     case measure=>simp [intOf];omega
  ·have hin:l=3:=by omega
   subst hin;go_wp2;go_ret;exact ⟨by rw [<-HX.out,sB HL.out];rfl,nw⟩
theorem vX (va asd:Int) (rs:List aD) (gm:List (bB × aD)) (j:Nat) (r:aD) (h:rs[j]?=some r):fU va asd (rs.take (j+1)) gm=kq (fU va asd (rs.take j) gm) (gE r.1 (cG va r.1) asd (aZ r.2.2 32)) r:=by
 induction rs generalizing gm j with
 | nil=>simp at h
 | cons x xs ih=>
  cases j with
  | zero=>
   simp at h;subst h;simp [fU]
  | succ j=>
   simp only [List.take_succ_cons,fU];exact ih _ j (by simpa using h)
theorem xZ {ops:Array Oper} {rest:List Oper} {o:Oper} {a:Act} {Q:Exit->Act->World->Prop} {w:World} {b n:Nat} {gm:List (bB × aD)} {k:bB} {L:Lit} {r:aD} (hg:o.guard=none) (m x v:Operand) (hop:o.op=Op.mapUpdate 63 m x v)
 (hm:a.eval m=.map (some b)) (hx:a.eval x=gk k) (hv:a.eval v=kf r) (h:GMap w b n gm) (hn:n<1048576) (hk:keyO (gk k)=some L) (hl:k.1=0∨k.1=1∨k.1=2)
 (hK:∀w',GMap w' b (n+1) (kq gm k r)->w.grownBy w' (some b)->wpList Tryz.prog ops Q rest (a.put o.dst undef) w'):wpList Tryz.prog ops Q (o::rest) a w:=by
 refine wpList_plain hg fun K' hK'=>?_;obtain ⟨w',hrun,r1,r2⟩:=h.put hn hk hl r;unfold Oper.wp;simp [execOp,hop,hm,hx,hv,hrun,Result.andThen];exact hK' _ _ (hK w' r1 r2)
theorem Br {v:World} {b i:Nat} {s:Int} (h:v.cell? (AD b i)=some (VU s)):(Instr.loadAt 33 (PT b i)).run Tryz.prog v=.ok (VU s) v:=by go_simp
theorem Bt {v:World} {b i:Nat} {s:Int} (h:v.cell? (AD b i)=some (VI s)):(Instr.loadAt 2 (PT b i)).run Tryz.prog v=.ok (VI s) v:=by go_simp
theorem RowC.map {w w':World} {a:Option Addr} {n size mb:Nat} {cs:List Value} {es:Array MapEntry} {c:Nat} (h:RowC w a n size cs) (hs:0<size) (hb:w.heap[mb]?=some (.map es c)) (hg:w.grownBy w' (some mb)):RowC w' a n size cs:=by
 obtain ⟨h1,h3⟩:=h;refine ⟨h1,?_⟩;rcases h3 with h3 | ⟨b,off,e,lt,hc⟩
 ·exact .inl h3
 ·by_cases hn:n=0
  ·exact .inl hn
  ·refine .inr ⟨b,off,e,ltl lt hg.size,fun i v hv=>?_⟩;have hne:b≠mb:=by
    rintro rfl;have h0:0<cs.length:=by rw [h1];exact Nat.mul_pos (by omega) hs
    have:=hc 0 _ (geg h0);simp [World.cell?,hb] at this
   have e1:=hg.block b lt (by simpa using hne);have:=hc i v hv;unfold World.cell? at this |-;simp only [e1];exact this
theorem zx (mb n:Nat) (gm:List (bB × aD)) (a:Option Addr) (rc:Nat) (rs:List aD) (va asd:Int) (w:World) (hg:GMap w mb n gm) (hn:n+3<1048576) (hr:RowC w a rs.length 3 (bu rs)) (hrn:rs.length<=3) (hrl:∀r∈rs,(r.1=0∨r.1=1∨r.1=2)∧0<=r.2.2∧r.2.2<=18446744073709551615) (hv0:0<=va) (hv1:va<=18446744073709551615) (h0:0<=asd) (h1:asd<=65535):
 Calls Tryz.prog 168 #[.map (some mb),.slice a rs.length rc,VU va,VU asd] w fun e w'=>e=.returned (.tuple #[])∧GMap w' mb (n+rs.length) (fU va asd rs gm)∧w.grownBy w' (some mb):=by
 have HG:=hid hg;have HR:=hid hr;have HL:=hid hrl;clear hg hr hrl;go_enter Tryz.func168,Tryz.ntmps168;go_wp2;go_loopw [12] (fun i wr=>∃k:Nat,k<=rs.length∧i=VI k∧GMap wr mb (n+k) (fU va asd (rs.take k) gm)∧w.grownBy wr (some mb)∧RowC wr a rs.length 3 (bu rs)) (fun i _=>rs.length-(intOf i).toNat)
 case atStart=>exact ⟨0,Nat.zero_le _,rfl,HG.out,ap _ _,HR.out⟩
 case round=>
  obtain ⟨k,hk,rfl,kg,gw,kr⟩:=hrel;have KG:=hid kg;have KR:=hid kr;clear kg kr;by_cases hlt:k<rs.length
  ·obtain ⟨⟨x1,x2,x3⟩,hs⟩:∃s,rs[k]?=some s:=⟨_,geg hlt⟩;obtain ⟨b,off,rfl⟩:=tq KR.out (by omega);obtain ⟨hb,c0,c1,c2⟩:=pV KR.out hs;obtain ⟨hl3,hx0,hx1⟩:=HL.out _ (List.mem_of_getElem? hs);have HS:=hid hs;have HP:=hid (vX va asd rs gm k _ hs);have hlt':decide ((k:Int)<(rs.length:Int))=true:=by simp;omega
   obtain ⟨v1,hs1,P1,l1,n1⟩:=uO wr (x1,x2,x3);have HS1:=hid hs1;clear hs hs1;simp only at c0 c1 c2 hl3 hx0 hx1 HP P1;go_upto_region 3 with (first | ((with_reducible refine bI ?_ ?_ HS1.out ?_);(exact rfl);(exact rfl)));simp only [Act.put];clear c0 c1 c2 HS1;obtain ⟨g5,hg5⟩:∃g5,aZ x3 32=g5:=⟨_,rfl⟩;have HB:Hid (∀w,Calls Tryz.prog 129 #[VU x3,VU 32] w fun e w'=>e=.returned (.bool g5)∧w'=w):=fun w=>by
    have:=bR x3 32 w;rw [bX 5 x3 32 rfl (by omega) hx0 hx1,hg5] at this;exact this
   rw [hg5] at HP;clear hg5;obtain ⟨L,hL⟩:=uN va asd x1 g5 hl3 h0 h1;have HLt:=hid hL;have HC:=hid fun u=>iY x1 va asd g5 u hl3 hv0 hv1;have HKl:Hid ((gE x1 (cG va x1) asd g5).1=x1):=by show _=_;rfl
   generalize gE x1 (cG va x1) asd g5=KK at HLt HC HP HKl;clear hL;have P1':=hid P1;have HL1:=hid fun u (hu:Bw v1 u)=>Bt (aa (ae P1' hu).out 0 (v:=VI x1) rfl);have HL3:=hid fun u (hu:Bw v1 u)=>Br (aa (ae P1' hu).out 2 (v:=VU x3) rfl);have HLw:=hid fun u (hu:Bw v1 u)=>ey (P:=Tryz.prog) (T:=118) (ae P1' hu).out Tryz.underlying118 rfl (by kernel_rfl);have hF:=bdr v1;refine ax (Bw v1) 10 ?_;refine ak 0 16 (.map (some mb)) rfl hF ?_;refine ak 1 17 (PT wr.heap.size 0) rfl hF ?_
   go_frame
   refine ak 2 18 (VI x1) rfl hF ?_ (hy:=fun u hu=>aP rfl (HL1.out u hu));refine ak 3 19 (VU va) rfl hF ?_;refine ak 4 20 (VU asd) rfl hF ?_;refine ak 5 21 (PT wr.heap.size 2) rfl hF ?_
   go_frame
   refine ak 6 22 (VU x3) rfl hF ?_ (hy:=fun u hu=>aP rfl (HL3.out u hu))
   go_frame
   refine ak 9 25 _ rfl hF ?_ (hy:=fun u hu=>aP rfl (HLw.out u hu))
   go_frame
   refine jq 7 23 rfl ((HB.out _).mono ?_);rintro e v2 ⟨rfl,rfl⟩;refine ⟨_,rfl,fun _=>hF,?_⟩
   go_frame
   refine jq 8 24 rfl ((HC.out _).mono ?_);rintro e v3 ⟨rfl,n3⟩;have b3:=bst hF n3;refine ⟨_,rfl,fun _=>b3,?_⟩
   go_frame
   refine jr 10 rfl ?_;have n13:=bst n1 b3;have KG3:=hid (KG.out.keep n13);obtain ⟨es,cl,hmb⟩:=KG3.out.blk;have KR3:=hid (KR.out.keep n13);refine xZ (n:=n+k) (r:=(x1,x2,x3)) rfl (.tmp 16) (.tmp 24) (.tmp 25) rfl rfl rfl rfl KG3.out (by omega) HLt.out (by rw [HKl.out];exact hl3) ?_;intro v4 g4 b4;have KR4:=hid (KR3.out.map (by omega) hmb b4);have GW:Hid (w.grownBy v4 (some mb)):=(gw.andThen (row':=none) (World.grownBy.but ⟨n13.os,n13.tape,n13.output,n13.size,fun i hi _=>n13.block i hi⟩ _) (fun j hj=>by cases hj)).andThen b4 (fun j hj=>.inr hj);have G4:=hid g4;clear g4 b4
   go_frame
   go_wp2;go_roundw
   case rel=>exact ⟨k+1,by omega,by go_num,by rw [HP.out];exact G4.out,GW.out,KR4.out⟩
   case measure=>simp [intOf];omega
  ·have hin:k=rs.length:=by omega
   subst hin;have hlt':decide ((rs.length:Int)<(rs.length:Int))=false:=by simp
   go_wp2_with fail;rw [List.take_length] at KG;exact ⟨rfl,.tuple #[],by kernel_rfl,rfl,KG.out,gw⟩
end
section
open Go.RowKit Go.Maps
attribute [local go_sem ↓] Go.wp_at_zero Go.wp_at_succ
theorem zg (X:Nat->Prop) (cv:Value) (f:FenceM) (k:bB) (r:aD) (pc:Nat) (w:World) (hC:CovFree X w cv f) (hp:w.heap[pc]?=some (.cells #[cv] 196 (0,0))) (hl:k.1=0∨k.1=1∨k.1=2) (hf:inU f.va):
 Calls Tryz.prog 162 #[gk k,kf r,PT pc 0] w fun e w'=>e=.returned (.bool (dU f k))∧Bw w w':=by
 obtain ⟨lv,tg,asd,gl⟩:=k;obtain ⟨v1,Ev1,n1,H1,H2,l1⟩:=al2 w #[VI lv,VU tg,VU asd,.bool gl] #[VI r.1,VU r.2.1,VU r.2.2] 214 118;have cp:v1.cell? (AD pc 0)=some cv:=aa (ag hp n1 (hpl hp)) 0 rfl;obtain ⟨⟨d0,d1,d2,d3⟩,_⟩:=aO H1.out;obtain ⟨hv,fva,ha,fa⟩:=f;rcases hC with ⟨h1,h2,rfl⟩ | ⟨h1,pf,pv,rfl,xf,xv,hF,hV⟩
 ·rw [show dU ⟨hv,fva,ha,fa⟩ (lv,tg,asd,gl)=false from tE _ _ _ _ _ h1 h2];clear hp h1 h2 hf;go_enter Tryz.func162,Tryz.ntmps162;go_upto_region 1 with fail;rw [Ev1.out];clear Ev1;go_wp2_with fail;refine (mT lv tg asd gl v1).mono ?_;rintro e v2 ⟨rfl,n2⟩;go_wp2;go_ret;exact ⟨rfl,bst n1 n2⟩
 ·obtain ⟨cb,hcb⟩:∃cb,dU ⟨hv,fva,ha,fa⟩ (lv,tg,asd,gl)=cb:=⟨_,rfl⟩;have HC:=hid (mU hv fva ha fa lv tg asd gl pf pv v1 hl hf.1 hf.2 (ag hF n1 (hpl hF)) (ag hV n1 (hpl hV)));rw [lI _ _ _ _ _ h1,show ei ⟨hv,fva,ha,fa⟩ lv tg asd gl=cb from hcb] at HC;rw [hcb];clear hp h1 hF hV hcb hf;go_enter Tryz.func162,Tryz.ntmps162;go_upto_region 1 with fail;rw [Ev1.out];clear Ev1;go_wp2_with fail;refine Calls.mono HC.out ?_;rintro e v2 ⟨rfl,n2⟩;go_wp2;go_ret;exact ⟨rfl,bst n1 n2⟩
structure KB where
 k:bB
structure RB where
 r:aD
theorem gu {w w':World} (h:Bw w w'):w.grownBy w' none:=⟨h.os,h.tape,h.output,h.size,fun i hi _=>h.block i hi⟩
theorem rR (X:Nat->Prop) (cv:Value) (f:FenceM) (pc mb n:Nat) (gm:List (bB × aD)) (w:World) (hG:GMap w mb n gm) (hX:X mb) (hC:CovFree X w cv f) (hp:w.heap[pc]?=some (.cells #[cv] 196 (0,0))) (hf:inU f.va):
 Calls Tryz.prog 161 #[.map (some mb),.func (.func 162) #[] #[PT pc 0]] w fun e w'=>e=.returned (.tuple #[])∧GMap w' mb n (jE gm (dU f))∧w.grownBy w' (some mb):=by
 have hpm:pc≠mb:=by
  obtain ⟨es,c,h⟩:=hG.blk;rintro rfl;rw [hp] at h;cases h
 have HD:Hid (∀(W:World) (k:bB) (r:aD),w.grownBy W (some mb)->(k.1=0∨k.1=1∨k.1=2)->Calls Tryz.prog 162 #[gk k,kf r,PT pc 0] W fun e w'=>e=.returned (.bool (dU f k))∧Bw W w'):=fun W k r hg hl=>
  zg X cv f k r pc W (hC.kp (Kp.of_gb hg hX)) (aq hp hg hpm) hl hf
 obtain ⟨D,hown,R,V⟩:=hG;have lm:=hown.lt;obtain ⟨es0,rfl,hap,hkeys⟩:=hown.entries iC;have HAP:=hid hap;have HR:=hid R;have HV:=hid V;clear hC hp hf R V hap;generalize dU f=cov at HD |-;go_enter Tryz.func161,Tryz.ntmps161;go_wp2_with (first
  | (at_range;refine wpList_range_own _ rfl _ 63 rfl 214 118 iC Tryz.underlying63 rl mb n _ rfl hown ?_;intro w0 hrg0 hg0 hs0)
  | go_in)
 go_frame
 go_loopw [8] (fun _ wr=>∃(left:Lit->Bool) (cnt:Nat),wr.ranges Tryz.prog 214 rl mb w.heap.size n (Fk (covL cov) es0 left) left cnt∧w.grownBy wr (some mb)) (fun _ wr=>wr.rangeLeft mb w.heap.size)
 case atStart=>exact ⟨_,_,by rw [Fk_start hkeys];exact hrg0,hg0.but _⟩
 case round=>
  obtain ⟨left,cnt,hrg,hgw⟩:=hrel;go_wp2_with (first
   | (at_next;refine wpList_next_ranges _ rfl _ rfl 214 iC rl (fun x:KB=>gk x.k) (fun x:RB=>kf x.r) (fun key _ hk=>let ⟨k,e⟩:=yP hk;⟨⟨k⟩,e⟩) (fun v _ hv=>let ⟨r,e,_⟩:=rn hv;⟨⟨r⟩,e⟩) mb w.heap.size n _ _ _ rfl hrg ?_ ?_)
   | go_in)
  ·intro _ hl0;go_wp2_with fail;refine ⟨rfl,.tuple #[],by kernel_rfl,rfl,⟨_,hrg.owns,?_,?_⟩,hgw⟩
   ·rw [Fk_end hl0];exact HR.out.del ⟨_,rfl⟩ cov
   ·intro k r hr;rw [fS] at hr;split at hr
    ·cases hr
    ·exact HV.out k r hr
  ·rintro ⟨⟨x1,x2,x3,x4⟩⟩ ⟨⟨c1,c2,c3⟩⟩ kl yd yp w1 cnt1 hkey hlx hv hat hrg1 hlt hg1 hs1 hen;simp only at hkey hv hen |-;clear hs1;have hgw1:=hgw.andThen hg1 (fun j hj=>by cases hj;exact Or.inl (Nat.le_refl _));have hlev:x1=0∨x1=1∨x1=2:=by
    have h1:=has_true_of_atKey hat;have h2:has (.map es0) kl=true:=by
     obtain ⟨p,hp,hk⟩:=List.any_eq_true.1 h1;exact List.any_eq_true.2 ⟨p,(List.mem_filter.1 hp).1,hk⟩
    rw [(HR.out (x1,x2,x3,x4) kl hkey).1] at h2;obtain ⟨r,hr⟩:=Option.isSome_iff_exists.1 h2;exact HV.out (x1,x2,x3,x4) r hr
   have hp:covL cov kl yd=cov (x1,x2,x3,x4):=uz cov hkey _;obtain ⟨v2,Ev2,n2,K2,R2,l2⟩:=al2 w1 #[VI x1,VU x2,VU x3,.bool x4] #[VI c1,VU c2,VU c3] 214 118;have hc:=hid (HD.out v2 (x1,x2,x3,x4) (c1,c2,c3) (hgw1.andThen (gu n2) (fun j hj=>by cases hj)) hlev);have hrg2:=hrg1.kept (gu n2) (by simp) (by simp);have hgw2:=hgw1.andThen (gu n2) (fun j hj=>by cases hj);go_upto_region 3 with fail;rw [Ev2.out];clear Ev2 hen;obtain ⟨⟨d0,d1,d2,d3⟩,_⟩:=aO K2.out;obtain ⟨⟨r0,r1,r2⟩,_⟩:=au R2.out;have K2':=hid K2;cases hcv:cov (x1,x2,x3,x4)
   ·rw [hcv] at hc hp;have HPf:=hid hp;have HAt:=hid hat;clear hp hat hcv;go_wp2_with fail;refine Calls.mono hc.out ?_;rintro e v3 ⟨rfl,n3⟩;have hrg3:=hrg2.kept (gu n3) (by simp) (by simp);go_wp2;go_roundw
    case rel=>exact ⟨_,cnt1,by rw [<-Fk_stays HAP.out (iC.key hkey) hlx HPf.out HAt.out];exact hrg3,hgw2.andThen (gu n3) (fun j hj=>by cases hj)⟩
    case measure=>rw [hrg3.left_eq,hrg.left_eq];exact hlt
   ·rw [hcv] at hc hp;have HPf:=hid hp;have HAt:=hid hat;clear hp hat hcv;go_wp2_with fail;refine Calls.mono hc.out ?_;rintro e v3 ⟨rfl,n3⟩;have hrg3:=hrg2.kept (gu n3) (by simp) (by simp);have hgw3:=hgw2.andThen (gu n3) (fun j hj=>by cases hj);obtain ⟨⟨e0,e1,e2,e3⟩,_⟩:=aO (ae K2' n3).out;go_wp2_with (first
     | (at_delete;refine wpList_delete_ranges _ rfl _ _ 63 214 rfl 118 iC Tryz.underlying63 rl mb w.heap.size n _ _ _ rfl hrg3 _ _ rfl hkey ?_;intro w3 cnt3 hrg4 hle hturn;go_frame)
     | go_in)
    rw [strike_twice] at hrg4;go_roundw
    case rel=>exact ⟨_,cnt3,by rw [<-Fk_struck HAP.out (iC.key hkey) hlx HPf.out HAt.out];exact hrg4,hgw3.andThen hturn.grown (fun j hj=>by cases hj;exact Or.inr rfl)⟩
    case measure=>rw [hrg4.left_eq,hrg.left_eq];omega
theorem tL (X:Nat->Prop) (cv:Value) (f:FenceM) (mb n:Nat) (gm:List (bB × aD)) (w:World) (hG:GMap w mb n gm) (hX:X mb) (hxn:¬X w.heap.size) (hC:CovFree X w cv f) (hf:inU f.va):
 Calls Tryz.prog 157 #[.map (some mb),cv] w fun e w'=>e=.returned (.tuple #[])∧GMap w' mb n (jE gm (dU f))∧w.grownBy w' (some mb):=by
 obtain ⟨v1,Ev1,n1,H1,l1⟩:=al1 w #[cv] 196;have HC:=hid (rR X cv f w.heap.size mb n gm v1 (hG.keep n1) hX (hC.kp (Kp.of_below X n1)) H1.out hf);have lm:=hG.lt;have sh:(∃g cs,cv=.func (.func g) #[] cs):=by
  rcases hC with ⟨_,_,rfl⟩ | ⟨_,_,_,rfl,_⟩
  ·exact ⟨_,_,rfl⟩
  ·exact ⟨_,_,rfl⟩
 obtain ⟨g,cs,rfl⟩:=sh;clear hG hC H1;go_enter Tryz.func157,Tryz.ntmps157;go_upto_region 1 with fail;rw [Ev1.out];clear Ev1;go_wp2_with fail;refine Calls.mono HC.out ?_;rintro e v2 ⟨rfl,hg,hgb⟩;have G:Hid (w.grownBy v2 (some mb)):=(World.grownBy.but (gu n1) (some mb)).andThen hgb (fun j hj=>.inr hj);have GG:=hid hg;clear hg hgb;go_wp2_with fail;exact ⟨rfl,.tuple #[],by kernel_rfl,rfl,GG.out,G.out⟩
end
end Go.Proofs.YthdgiakgepmabaaGreat
