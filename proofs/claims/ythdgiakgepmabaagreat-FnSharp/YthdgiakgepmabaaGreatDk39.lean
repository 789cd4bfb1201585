import Derived.Test.YthdgiakgepmabaaGreatDk12
namespace Go.Proofs.YthdgiakgepmabaaGreat
open Go.RowKit
set_option linter.unusedVariables false
set_option maxHeartbeats 6400000
set_option maxRecDepth 20000
theorem oA (p q:Int) (h:HartM) (kind va:Int):aT true p h kind va=aT true q h kind va:=by unfold aT;simp
theorem uy (p q:Int) (r:RunM) (kind va:Int):bf true p r kind va=bf true q r kind va:=by unfold bf;rw [oA p q]
theorem ly (p q kind:Int):∀(ps:List bw) (r:RunM),ag true p kind r ps=ag true q kind r ps
 | [],r=>rfl
 | x::ps,r=>by rw [ag,ag,oA p q,uy p q,ly p q kind ps]
theorem zT (p q:Int) (r:RunM) (kind va w:Int):aw true p r kind va w=aw true q r kind va w:=by unfold aw;rw [ly p q]
theorem FD (p q:Int) (r:RunM) (pc op a b c s word:Int):doM true p r pc op a b c s word=doM true q r pc op a b c s word:=by
 unfold doM ia fx lC;simp only [zT p q]
theorem Ch (p q:Int) (r:RunM):cY true p r=cY true q r:=by
 unfold cY gE eT iP;simp only [oA p q,uy p q,FD p q]
theorem zU (p q:Int) (h:HartM):bx true p h=bx true q h:=by unfold bx eR;simp
theorem uz (p q:Int) (h:HartM):bT true p h=bT true q h:=by unfold bT;rw [Ch p q,zU p q]
theorem yA:∀(ps qs:List Int) (h:HartM),ps.length=qs.length->eI true ps h=eI true qs h
 | [],[],h,_=>rfl
 | p::ps,q::qs,h,hl=>by
  rw [eI,eI,uz p q,yA ps qs _ (by simpa using hl)]
 | [],q::qs,h,hl=>by simp at hl
 | p::ps,[],h,hl=>by simp at hl
theorem yB:∀(ps qs:List Int) (h:HartM) (gs:List ay) (i:Nat),ps.length=qs.length->hU ps h gs i=hU qs h gs i
 | [],[],h,gs,i,_=>rfl
 | p::ps,q::qs,h,gs,i,hl=>by
  rw [hU,hU,uz p q];split
  ·exact yB ps qs _ _ _ (by simpa using hl)
  ·rfl
 | [],q::qs,h,gs,i,hl=>by simp at hl
 | p::ps,[],h,gs,i,hl=>by simp at hl
def Like (g h:HartM):Prop:=h.mem=g.mem∧h.mode=g.mode∧h.sum=g.sum∧h.mxr=g.mxr∧h.satp=g.satp
theorem Like.refl (h:HartM):Like h h:=⟨rfl,rfl,rfl,rfl,rfl⟩
theorem tX {g h:HartM} (hl:Like g h) (kind va:Int):∀(rs:List aP) (gs:List ay),dJ h kind va rs gs=dJ g kind va rs gs
 | [],gs=>rfl
 | r::rs,gs=>by
  rw [dJ,dJ,hl.2.1,hl.2.2.1,hl.2.2.2.1,hl.2.2.2.2];exact tX hl kind va rs _
theorem zf {g h:HartM} (hl:Like g h) (gs:List ay) (l:Int × Int):cV gs h l=cV gs g l:=by
 unfold cV kS;rw [tX hl,hl.1,hl.2.1,hl.2.2.2.2]
theorem jT (h:HartM):∀(a b:List (Int × Int)) (gs:List ay),(aZ h (a++b) gs).1=true->(aZ h a gs).1=true∧aZ h (a++b) gs=aZ h b (aZ h a gs).2
 | [],b,gs,hj=>⟨rfl,rfl⟩
 | l::a,b,gs,hj=>by
  simp only [List.cons_append,aZ] at hj |-;split at hj
  ·rename_i h1;rw [if_pos h1,if_pos h1];exact jT h a b _ hj
  ·cases hj
def Jd (g:HartM) (gs:List ay) (r:RunM):Prop:=(aZ g r.looks gs).1=true
theorem Jd.pfx {g:HartM} {gs:List ay} {r r':RunM} (h:Jd g gs r') (hp:r.looks<+:r'.looks):Jd g gs r:=by
 obtain ⟨t,ht⟩:=hp;unfold Jd at h;rw [<-ht] at h;exact (jT g r.looks t gs h).1
structure Sim (g:HartM) (gs:List ay) (rc rp:RunM):Prop where
 eq:rc=bA rp (withK rp.h rc.h.k)
 good:cz rc.h.k=true
 cov:CovK rc.h.k (dX rp (aZ g rp.looks gs).2)
theorem mu {r:RunM} {gs:List ay} (h:r.fenced=false):dX r gs=gs:=by
 unfold dX;rw [h];rfl
theorem wT {g:HartM} {gs:List ay} {rc rp:RunM} {kind va pick pick':Int} (hs:Sim g gs rc rp) (hl:Like g rp.h) (hf:rp.fenced=false) (hm:0<=rp.h.mode∧rp.h.mode<=2) (hk:0<=kind∧kind<=2) (hp:0<=pick∧pick<=255) (hj:Jd g gs (bf true pick' rp kind va)):
 Sim g gs (bf false pick rc kind va) (bf true pick' rp kind va)∧(aT false pick rc.h kind va).1=(aT true pick' rp.h kind va).1:=by
 obtain ⟨he,hg,hc⟩:=hs;generalize rc.h.k=k at he hg hc;subst he;unfold Jd at hj;obtain ⟨j1,j2⟩:=jT g rp.looks [(kind,va)] gs hj;have j3:(aZ g (rp.looks++[(kind,va)]) gs).1=true:=hj;rw [j2] at j3;rw [mu hf] at hc;have j4:(cV (aZ g rp.looks gs).2 g (kind,va)).1=true:=by
  rw [aZ] at j3;split at j3
  ·assumption
  ·cases j3
 have j5:(aZ g (rp.looks++[(kind,va)]) gs).2=(cV (aZ g rp.looks gs).2 g (kind,va)).2:=by
  rw [j2,aZ,if_pos j4];rfl
 rw [<-zf hl] at j4 j5;obtain ⟨t1,t2⟩:=zL rp.h k _ kind va pick hg hc hk hm hp j4;have tg:=tf rp.h.mem rp.h.mode rp.h.sum rp.h.mxr rp.h.satp k kind va pick hg hk hm hp;have e1:aT false pick (withK rp.h k) kind va=bZ rp.h.mem rp.h.mode rp.h.sum rp.h.mxr rp.h.satp k kind va pick:=rfl;have e2:aT true pick' rp.h kind va=(fP rp.h.mem rp.h.mode rp.h.sum rp.h.mxr rp.h.satp kind va,rp.h.k):=rfl;refine ⟨⟨rfl,tg,?_⟩,?_⟩
 ·rw [mu (show (bf true pick' rp kind va).fenced=false from hf)];show CovK (bZ rp.h.mem rp.h.mode rp.h.sum rp.h.mxr rp.h.satp k kind va pick).2 (aZ g (rp.looks++[(kind,va)]) gs).2;rw [j5];exact t2
 ·show (aT false pick (withK rp.h k) kind va).1=_;rw [e1,e2];exact t1
theorem qz (plain:Bool) (pick kind va:Int) (r:RunM):r.looks<+:(bf plain pick r kind va).looks:=⟨[(kind,va)],rfl⟩
theorem fz (plain:Bool) (pick kind:Int):∀(ps:List bw) (r:RunM),r.looks<+:(ag plain pick kind r ps).1.looks
 | [],r=>List.prefix_rfl
 | p::ps,r=>by
  rw [ag];split
  ·exact (qz plain pick kind p.1 r).trans (fz plain pick kind ps _)
  ·exact qz plain pick kind p.1 r
theorem iG {g:HartM} {gs:List ay} {rc rp:RunM} (hs:Sim g gs rc rp) (c t:Int):Sim g gs (bI rc c t) (bI rp c t):=by
 obtain ⟨he,hg,hc⟩:=hs;generalize rc.h.k=k at he hg hc;subst he;exact ⟨rfl,hg,hc⟩
theorem lL {g:HartM} {gs:List ay} {kind pick pick':Int} (hk:0<=kind∧kind<=2) (hp:0<=pick∧pick<=255):∀(ps:List bw) (rc rp:RunM),Sim g gs rc rp->Like g rp.h->rp.fenced=false->(0<=rp.h.mode∧rp.h.mode<=2)->
 Jd g gs (ag true pick' kind rp ps).1->Sim g gs (ag false pick kind rc ps).1 (ag true pick' kind rp ps).1∧(ag false pick kind rc ps).2=(ag true pick' kind rp ps).2
 | [],rc,rp,hs,hl,hf,hm,hj=>⟨hs,rfl⟩
 | p::ps,rc,rp,hs,hl,hf,hm,hj=>by
  have hj0:Jd g gs (bf true pick' rp kind p.1):=by
   refine hj.pfx ?_;rw [ag];split
   ·exact fz true pick' kind ps _
   ·exact List.prefix_rfl
  obtain ⟨s1,s2⟩:=wT (pick:=pick) hs hl hf hm hk hp hj0;rw [ag,ag,s2];rw [ag] at hj;by_cases h0:(aT true pick' rp.h kind p.1).1.1=0
  ·rw [if_pos h0,if_pos h0];rw [if_pos h0] at hj;obtain ⟨q1,q2⟩:=lL hk hp ps _ _ s1 hl hf hm hj;exact ⟨q1,by rw [q2]⟩
  ·rw [if_neg h0,if_neg h0];exact ⟨iG s1 _ _,rfl⟩
theorem kF (plain:Bool) (pick kind va w:Int) (r:RunM):r.looks<+:(aw plain pick r kind va w).1.looks:=by
 unfold aw;split
 ·split <;> exact fz plain pick kind _ r
 ·exact fz plain pick kind _ r
theorem Sim.cause {g:HartM} {gs:List ay} {rc rp:RunM} (h:Sim g gs rc rp):rc.cause=rp.cause:=by rw [h.eq];rfl
theorem Sim.tval {g:HartM} {gs:List ay} {rc rp:RunM} (h:Sim g gs rc rp):rc.tval=rp.tval:=by rw [h.eq];rfl
theorem Sim.mem {g:HartM} {gs:List ay} {rc rp:RunM} (h:Sim g gs rc rp):rc.h.mem=rp.h.mem:=by rw [h.eq];rfl
theorem Sim.regs {g:HartM} {gs:List ay} {rc rp:RunM} (h:Sim g gs rc rp):rc.h.regs=rp.h.regs:=by rw [h.eq];rfl
theorem pO {g:HartM} {gs:List ay} {kind pick pick' va w:Int} {rc rp:RunM} (hk:0<=kind∧kind<=2) (hp:0<=pick∧pick<=255) (hs:Sim g gs rc rp) (hl:Like g rp.h) (hf:rp.fenced=false) (hm:0<=rp.h.mode∧rp.h.mode<=2)
 (hj:Jd g gs (aw true pick' rp kind va w).1):Sim g gs (aw false pick rc kind va w).1 (aw true pick' rp kind va w).1∧(aw false pick rc kind va w).2=(aw true pick' rp kind va w).2:=by
 have hj0:Jd g gs (ag true pick' kind rp (cD va w)).1:=by
  refine hj.pfx ?_;unfold aw;split
  ·split <;> exact List.prefix_rfl
  ·exact List.prefix_rfl
 obtain ⟨s1,s2⟩:=lL (pick:=pick) hk hp _ _ _ hs hl hf hm hj0;unfold aw;rw [s2,s1.cause,s1.mem];split
 ·split
  ·exact ⟨s1,s2⟩
  ·exact ⟨iG s1 _ _,rfl⟩
 ·exact ⟨s1,s2⟩
theorem gu {g:HartM} {gs:List ay} {rc rp:RunM} (hs:Sim g gs rc rp) (hc hp:HartM) (h:hc=withK hp rc.h.k):Sim g gs (bA rc hc) (bA rp hp):=by
 obtain ⟨he,hg,hv⟩:=hs;generalize rc.h.k=k at he hg hv h;subst he;subst h;exact ⟨rfl,hg,hv⟩
theorem ig {g:HartM} {gs:List ay} {rc rp:RunM} (hs:Sim g gs rc rp) (a x:Int):Sim g gs (bW rc a x) (bW rp a x):=by
 unfold bW;refine gu hs _ _ ?_;rw [hs.regs];have:=hs.eq;generalize rc.h.k=k at this |-;subst this;rfl
theorem EI {g:HartM} {gs:List ay} {rc rp:RunM} (hs:Sim g gs rc rp) (m:List Int):Sim g gs (bA rc (dV rc.h m)) (bA rp (dV rp.h m)):=by
 refine gu hs _ _ ?_;have:=hs.eq;generalize rc.h.k=k at this |-;subst this;rfl
theorem wU (plain:Bool) (pick ea w a:Int) (r:RunM):r.looks<+:(ia plain pick r ea w a).looks:=by
 unfold ia;split <;> exact kF plain pick _ _ _ r
theorem uQ (plain:Bool) (pick ea w x:Int) (r:RunM):r.looks<+:(fx plain pick r ea w x).looks:=by
 unfold fx;split <;> exact kF plain pick _ _ _ r
theorem zg (plain:Bool) (pick ea a x:Int) (r:RunM):r.looks<+:(lC plain pick r ea a x).looks:=by
 unfold lC;split <;> exact kF plain pick _ _ _ r
theorem Bd (plain:Bool) (pick:Int) (r:RunM) (pc op a b c s word:Int):r.looks<+:(doM plain pick r pc op a b c s word).looks:=by
 unfold doM;by_cases hi:bH op c r.h.mode=true
 ·rw [if_pos hi];exact List.prefix_rfl
 rw [if_neg hi];by_cases o1:op=1
 ·rw [if_pos o1];exact List.prefix_rfl
 rw [if_neg o1];by_cases o2:op=2
 ·rw [if_pos o2];exact List.prefix_rfl
 rw [if_neg o2];by_cases o3:op=3
 ·rw [if_pos o3];exact List.prefix_rfl
 rw [if_neg o3];by_cases o4:op=4
 ·rw [if_pos o4];exact List.prefix_rfl
 rw [if_neg o4];by_cases o5:op=5
 ·rw [if_pos o5];exact wU plain pick _ _ _ r
 rw [if_neg o5];by_cases o6:op=6
 ·rw [if_pos o6];exact uQ plain pick _ _ _ r
 rw [if_neg o6];by_cases o7:op=7
 ·rw [if_pos o7];exact zg plain pick _ _ _ r
 rw [if_neg o7];by_cases o8:op=8
 ·rw [if_pos o8];split <;> exact List.prefix_rfl
 rw [if_neg o8];by_cases o9:op=9
 ·rw [if_pos o9];split <;> exact List.prefix_rfl
 rw [if_neg o9];by_cases o10:op=10
 ·rw [if_pos o10];exact List.prefix_rfl
 rw [if_neg o10];by_cases o11:op=11
 ·rw [if_pos o11];exact List.prefix_rfl
 rw [if_neg o11];by_cases o12:op=12
 ·rw [if_pos o12];exact List.prefix_rfl
 rw [if_neg o12];by_cases o13:op=13
 ·rw [if_pos o13];exact List.prefix_rfl
 rw [if_neg o13];by_cases o14:op=14
 ·rw [if_pos o14];exact List.prefix_rfl
 rw [if_neg o14];exact List.prefix_rfl
theorem CZ {g:HartM} {gs:List ay} {rc rp:RunM} {pick pick' ea w a:Int} (hp:0<=pick∧pick<=255) (hs:Sim g gs rc rp) (hl:Like g rp.h) (hf:rp.fenced=false) (hm:0<=rp.h.mode∧rp.h.mode<=2)
 (hj:Jd g gs (ia true pick' rp ea w a)):Sim g gs (ia false pick rc ea w a) (ia true pick' rp ea w a):=by
 unfold ia at hj |-;have hj0:Jd g gs (aw true pick' rp 1 ea w).1:=by
  refine hj.pfx ?_;split <;> exact List.prefix_rfl
 obtain ⟨s1,s2⟩:=pO (pick:=pick) (by omega) hp hs hl hf hm hj0;rw [s2,s1.cause,s1.mem];split
 ·exact ig s1 _ _
 ·exact s1
theorem rT {g:HartM} {gs:List ay} {rc rp:RunM} (hs:Sim g gs rc rp) (ps:List bw) (b:List Int):Sim g gs (cT (rc,ps) b) (cT (rp,ps) b):=by
 unfold cT;simp only;rw [hs.mem];exact EI hs _
theorem Be {g:HartM} {gs:List ay} {rc rp:RunM} {pick pick' ea w x:Int} (hp:0<=pick∧pick<=255) (hs:Sim g gs rc rp) (hl:Like g rp.h) (hf:rp.fenced=false) (hm:0<=rp.h.mode∧rp.h.mode<=2)
 (hj:Jd g gs (fx true pick' rp ea w x)):Sim g gs (fx false pick rc ea w x) (fx true pick' rp ea w x):=by
 unfold fx at hj |-;have hj0:Jd g gs (aw true pick' rp 2 ea w).1:=by
  refine hj.pfx ?_;split <;> exact List.prefix_rfl
 obtain ⟨s1,s2⟩:=pO (pick:=pick) (by omega) hp hs hl hf hm hj0;have e1:aw false pick rc 2 ea w=((aw false pick rc 2 ea w).1,(aw true pick' rp 2 ea w).2):=by rw [<-s2]
 rw [s1.cause];split
 ·rw [e1];exact rT s1 _ _
 ·exact s1
theorem EJ {g:HartM} {gs:List ay} {rc rp:RunM} {pick pick' ea a x:Int} (hp:0<=pick∧pick<=255) (hs:Sim g gs rc rp) (hl:Like g rp.h) (hf:rp.fenced=false) (hm:0<=rp.h.mode∧rp.h.mode<=2)
 (hj:Jd g gs (lC true pick' rp ea a x)):Sim g gs (lC false pick rc ea a x) (lC true pick' rp ea a x):=by
 unfold lC at hj |-;have hj0:Jd g gs (aw true pick' rp 2 ea 8).1:=by
  refine hj.pfx ?_;split <;> exact List.prefix_rfl
 obtain ⟨s1,s2⟩:=pO (pick:=pick) (by omega) hp hs hl hf hm hj0;have e1:aw false pick rc 2 ea 8=((aw false pick rc 2 ea 8).1,(aw true pick' rp 2 ea 8).2):=by rw [<-s2]
 rw [s1.cause];split
 ·rw [s2,s1.mem,e1];exact ig (rT s1 _ _) _ _
 ·exact s1
theorem Ga {g:HartM} {gs:List ay} {rc rp:RunM} {pick pick' pc op a b c s word:Int} (hp:0<=pick∧pick<=255) (hs:Sim g gs rc rp) (hl:Like g rp.h) (hf:rp.fenced=false) (hm:0<=rp.h.mode∧rp.h.mode<=2)
 (hj:Jd g gs (doM true pick' rp pc op a b c s word)):Sim g gs (doM false pick rc pc op a b c s word) (doM true pick' rp pc op a b c s word):=by
 have he:=hs.eq;have e1:rc.h.mode=rp.h.mode:=by rw [he];rfl
 have e2:∀x,fO rc.h x=fO rp.h x:=fun x=>by rw [he];rfl
 have e3:∀x y,eaM rc.h x y=eaM rp.h x y:=fun x y=>by rw [he];rfl
 unfold doM at hj |-;simp only [e1,e2,e3];by_cases hi:bH op c rp.h.mode=true
 ·rw [if_pos hi,if_pos hi];exact iG hs _ _
 rw [if_neg hi,if_neg hi];rw [if_neg hi] at hj;by_cases o1:op=1
 ·rw [if_pos o1,if_pos o1];exact ig hs _ _
 rw [if_neg o1,if_neg o1];rw [if_neg o1] at hj;by_cases o2:op=2
 ·rw [if_pos o2,if_pos o2];exact ig hs _ _
 rw [if_neg o2,if_neg o2];rw [if_neg o2] at hj;by_cases o3:op=3
 ·rw [if_pos o3,if_pos o3];exact ig hs _ _
 rw [if_neg o3,if_neg o3];rw [if_neg o3] at hj;by_cases o4:op=4
 ·rw [if_pos o4,if_pos o4];exact ig hs _ _
 rw [if_neg o4,if_neg o4];rw [if_neg o4] at hj;by_cases o5:op=5
 ·rw [if_pos o5,if_pos o5];rw [if_pos o5] at hj;exact CZ hp hs hl hf hm hj
 rw [if_neg o5,if_neg o5];rw [if_neg o5] at hj;by_cases o6:op=6
 ·rw [if_pos o6,if_pos o6];rw [if_pos o6] at hj;exact Be hp hs hl hf hm hj
 rw [if_neg o6,if_neg o6];rw [if_neg o6] at hj;by_cases o7:op=7
 ·rw [if_pos o7,if_pos o7];rw [if_pos o7] at hj;exact EJ hp hs hl hf hm hj
 rw [if_neg o7,if_neg o7];rw [if_neg o7] at hj;have hhe:rc.h=withK rp.h rc.h.k:=by
  have:=congrArg RunM.h he;exact this
 by_cases o8:op=8
 ·rw [if_pos o8,if_pos o8];split
  ·exact hs
  ·exact gu hs _ _ (by rw [hhe];rfl)
 rw [if_neg o8,if_neg o8];rw [if_neg o8] at hj;by_cases o9:op=9
 ·rw [if_pos o9,if_pos o9];split
  ·exact gu hs _ _ (by rw [hhe];rfl)
  ·exact hs
 rw [if_neg o9,if_neg o9];rw [if_neg o9] at hj;by_cases o10:op=10
 ·rw [if_pos o10,if_pos o10];exact gu hs _ _ (by rw [hhe];rfl)
 rw [if_neg o10,if_neg o10];rw [if_neg o10] at hj;by_cases o11:op=11
 ·rw [if_pos o11,if_pos o11];have ef:jQ rc.h a b=jQ rp.h a b:=by unfold jQ;rw [e2,e2]
  rw [ef];have hg:=hs.good;have hc:=hs.cov;rw [mu hf] at hc;generalize rc.h.k=k at he hg hc;subst he;refine ⟨rfl,qJ k _ hg,?_⟩;exact hc.flush hg
 rw [if_neg o11,if_neg o11];rw [if_neg o11] at hj;by_cases o12:op=12
 ·rw [if_pos o12,if_pos o12];exact gu hs _ _ (by rw [hhe];rfl)
 rw [if_neg o12,if_neg o12];by_cases o13:op=13
 ·rw [if_pos o13,if_pos o13];exact gu hs _ _ (by rw [hhe];rfl)
 rw [if_neg o13,if_neg o13];by_cases o14:op=14
 ·rw [if_pos o14,if_pos o14];exact iG hs _ _
 rw [if_neg o14,if_neg o14];exact iG hs _ _
theorem zh (plain:Bool) (pick:Int) (r:RunM) (x:Int):r.looks<+:(gE plain pick r x).looks:=by
 unfold gE eT;have:=Bd plain pick (bA r (dL r.h ((r.h.pc+4)%18446744073709551616))) r.h.pc (x%256) (x/256%256%8) (x/256%256/8%8) (x/65536%256%8) (x/16777216) x;generalize doM plain pick (bA r (dL r.h ((r.h.pc+4)%18446744073709551616))) r.h.pc (x%256) (x/256%256%8) (x/256%256/8%8) (x/65536%256%8) (x/16777216) x=y at this |-;exact this
theorem EK {g:HartM} {gs:List ay} {rc rp:RunM} {pick pick' x:Int} (hp:0<=pick∧pick<=255) (hs:Sim g gs rc rp) (hl:Like g rp.h) (hf:rp.fenced=false) (hm:0<=rp.h.mode∧rp.h.mode<=2)
 (hj:Jd g gs (gE true pick' rp x)):Sim g gs (gE false pick rc x) (gE true pick' rp x):=by
 have hhe:rc.h=withK rp.h rc.h.k:=congrArg RunM.h hs.eq;have epc:rc.h.pc=rp.h.pc:=by rw [hhe];rfl
 have s3:Sim g gs (bA rc (dL rc.h ((rc.h.pc+4)%18446744073709551616))) (bA rp (dL rp.h ((rp.h.pc+4)%18446744073709551616))):=by
  refine gu hs _ _ ?_;rw [epc];generalize rc.h.k=k at hhe |-;rw [hhe];rfl
 unfold gE eT at hj |-;rw [epc] at s3 |-;exact Ga hp s3 hl hf hm hj
theorem C5 {g:HartM} {gs:List ay} {rc rp:RunM} {pick pick':Int} (hp:0<=pick∧pick<=255) (hs:Sim g gs rc rp) (hl:Like g rp.h) (hf:rp.fenced=false) (hm:0<=rp.h.mode∧rp.h.mode<=2)
 (hj:Jd g gs (cY true pick' rp)):Sim g gs (cY false pick rc) (cY true pick' rp):=by
 have he:=hs.eq;have hhe:rc.h=withK rp.h rc.h.k:=congrArg RunM.h he;have epc:rc.h.pc=rp.h.pc:=by rw [hhe];rfl
 unfold cY at hj |-;simp only [epc,hs.mem];by_cases h4:¬rp.h.pc%4=0
 ·rw [if_neg h4,if_neg h4];exact iG hs _ _
 have h4:=Decidable.not_not.1 h4;rw [if_pos h4,if_pos h4];rw [if_pos h4] at hj;have hj0:Jd g gs (bf true pick' rp 0 rp.h.pc):=by
  refine hj.pfx ?_;generalize hz:bf true pick' rp 0 rp.h.pc=z;split
  ·split
   ·exact zh true pick' z _
   ·exact List.prefix_rfl
  ·exact List.prefix_rfl
 obtain ⟨s1,s2⟩:=wT (pick:=pick) hs hl hf hm (by omega) hp hj0;rw [s2];by_cases h0:¬(aT true pick' rp.h 0 rp.h.pc).1.1=0
 ·rw [if_neg h0,if_neg h0];exact iG s1 _ _
 have h0:=Decidable.not_not.1 h0;rw [if_pos h0,if_pos h0];rw [if_pos h0] at hj;have ew:iP false pick rc.h=iP true pick' rp.h:=by unfold iP;rw [hs.mem,epc,s2]
 rw [ew];split
 ·rename_i hg;rw [if_pos hg] at hj;exact EK hp s1 hl hf hm hj
 ·exact iG s1 _ _
theorem C6 {h:HartM} {k:KM} {gs:List ay} {pick pick':Int} (hp:0<=pick∧pick<=255) (hk:cz k=true) (hc:CovK k gs) (hm:0<=h.mode∧h.mode<=2) (hj:(aZ h (bT true pick' h).looks gs).1=true):
 ∃k',bT false pick (withK h k)=bA (bT true pick' h) (withK (bT true pick' h).h k')∧cz k'=true∧CovK k' (dX (bT true pick' h) (aZ h (bT true pick' h).looks gs).2):=by
 have s0:Sim h gs (bx false pick (withK h k)) (bx true pick' h):=by
  refine ⟨?_,sU false pick k hk,?_⟩
  ·unfold bx;have:eR true pick' h.k=h.k:=by unfold eR;rw [if_neg (by simp)]
   rw [this];rfl
  ·rw [mu rfl];exact hc.evict
 have hl:Like h (bx true pick' h).h:=⟨rfl,rfl,rfl,rfl,rfl⟩;have e:(bT true pick' h).looks=(cY true pick' (bx true pick' h)).looks:=by
  unfold bT kX;split <;> rfl
 have hj1:Jd h gs (cY true pick' (bx true pick' h)):=by
  unfold Jd;rw [<-e];exact hj
 have s1:=C5 (pick:=pick) hp s0 hl rfl hm hj1;have ef:dX (bT true pick' h) (aZ h (bT true pick' h).looks gs).2=dX (cY true pick' (bx true pick' h)) (aZ h (cY true pick' (bx true pick' h)).looks gs).2:=by
  unfold bT kX;split <;> rfl
 rw [ef];refine ⟨(cY false pick (bx false pick (withK h k))).h.k,?_,s1.good,s1.cov⟩;unfold bT kX;rw [s1.cause];split
 ·exact s1.eq
 ·unfold dm;rw [s1.cause,s1.tval];have:=s1.eq;generalize (cY false pick (bx false pick (withK h k))).h.k=k' at this;rw [this];rfl
def fi (h:HartM):Prop:=(0<=h.mode∧h.mode<=2)∧(0<=h.emode∧h.emode<=2)
theorem C7 {r:RunM} {plain:Bool} {pick pc op a b c s word:Int} (hc:0<=c) (hm:fi r.h):fi (doM plain pick r pc op a b c s word).h:=by
 have tp:∀(kind:Int) (ps:List bw) (r:RunM),fi r.h->fi (ag plain pick kind r ps).1.h:=by
  intro kind ps
  induction ps with
  | nil=>intro r h;exact h
  | cons p ps ih=>
   intro r h;rw [ag];split
   ·exact ih _ h
   ·exact h
 have pp:∀kind va w,fi (aw plain pick r kind va w).1.h:=by
  intro kind va w;unfold aw;split
  ·split <;> exact tp kind _ r hm
  ·exact tp kind _ r hm
 unfold doM;by_cases hi:bH op c r.h.mode=true
 ·rw [if_pos hi];exact hm
 rw [if_neg hi];by_cases o1:op=1
 ·rw [if_pos o1];exact hm
 rw [if_neg o1];by_cases o2:op=2
 ·rw [if_pos o2];exact hm
 rw [if_neg o2];by_cases o3:op=3
 ·rw [if_pos o3];exact hm
 rw [if_neg o3];by_cases o4:op=4
 ·rw [if_pos o4];exact hm
 rw [if_neg o4];by_cases o5:op=5
 ·rw [if_pos o5];unfold ia;split <;> exact pp _ _ _
 rw [if_neg o5];by_cases o6:op=6
 ·rw [if_pos o6];unfold fx;split <;> exact pp _ _ _
 rw [if_neg o6];by_cases o7:op=7
 ·rw [if_pos o7];unfold lC;split <;> exact pp _ _ _
 rw [if_neg o7];by_cases o8:op=8
 ·rw [if_pos o8];split <;> exact hm
 rw [if_neg o8];by_cases o9:op=9
 ·rw [if_pos o9];split <;> exact hm
 rw [if_neg o9];by_cases o10:op=10
 ·rw [if_pos o10];exact hm
 rw [if_neg o10];by_cases o11:op=11
 ·rw [if_pos o11];cases plain <;> exact hm
 rw [if_neg o11];by_cases o12:op=12
 ·rw [if_pos o12];exact ⟨hm.2,hm.2⟩
 rw [if_neg o12];by_cases o13:op=13
 ·rw [if_pos o13];refine ⟨hm.1,hc,?_⟩;show c<=2;simp only [bH,Bool.or_eq_true,decide_eq_true_eq,not_or] at hi;omega
 rw [if_neg o13];by_cases o14:op=14
 ·rw [if_pos o14];exact hm
 rw [if_neg o14];exact hm
theorem Bf {r:RunM} {plain:Bool} {pick x:Int} (hm:fi r.h):fi (gE plain pick r x).h:=by
 unfold gE eT;have hm':fi (bA r (dL r.h ((r.h.pc+4)%18446744073709551616))).h:=hm;generalize bA r (dL r.h ((r.h.pc+4)%18446744073709551616))=y at hm' |-;exact C7 (by omega) hm'
theorem zi {r:RunM} {plain:Bool} {pick:Int} (hm:fi r.h):fi (cY plain pick r).h:=by
 have hm':fi (bf plain pick r 0 r.h.pc).h:=hm;unfold cY;generalize bf plain pick r 0 r.h.pc=z at hm' |-;split
 ·split
  ·split
   ·exact Bf hm'
   ·exact hm'
  ·exact hm'
 ·exact hm
theorem zj {h:HartM} {plain:Bool} {pick:Int} (hm:fi h):fi (bT plain pick h).h:=by
 have hb:fi (cY plain pick (bx plain pick h)).h:=zi hm;unfold bT kX;generalize cY plain pick (bx plain pick h)=z at hb |-;split
 ·exact hb
 ·exact ⟨⟨by simp [bA,dm],by simp [bA,dm]⟩,hm.1⟩
theorem Da (ps:List Int):∀(qs:List Int) (h:HartM) (k:KM) (gs:List ay) (i:Nat),qs.length=ps.length->(∀q∈qs,0<=q∧q<=255)->cz k=true->CovK k gs->fi h->(hU ps h gs i).1=true->
 (eI false qs (withK h k)).1=(eI true ps h).1∧∃k',(eI false qs (withK h k)).2=withK (eI true ps h).2 k':=by
 induction ps with
 | nil=>
  intro qs h k gs i hl _ _ _ _ _;rw [List.length_nil,List.length_eq_zero_iff] at hl;subst hl;exact ⟨rfl,k,rfl⟩
 | cons p ps ih=>
  intro qs h k gs i hl hq hk hc hm hd;cases qs with
  | nil=>simp at hl
  | cons q qs=>
   have hs:=@C6 h k gs q p (hq q (List.mem_cons_self ..)) hk hc hm.1;have hmm:=@zj h true p hm;rw [hU] at hd;rw [eI,eI];generalize bT true p h=sp at hs hmm hd |-;generalize bT false q (withK h k)=sc at hs |-;split at hd
   ·rename_i hj;obtain ⟨k',rfl,e2,e3⟩:=hs hj;obtain ⟨r1,r2⟩:=ih qs sp.h k' _ (i+1) (by simpa using hl) (fun x hx=>hq x (List.mem_cons_of_mem _ hx)) e2 e3 hmm hd;have e4:(bA sp (withK sp.h k')).h=withK sp.h k':=rfl;rw [e4,r1];exact ⟨rfl,r2⟩
   ·cases hd
def ML (n:Nat) (r:RunM):Prop:=r.h.mem.length=n
theorem rt {n:Nat} {c:Prop} [Decidable c] {a b:RunM} (ha:c->ML n a) (hb:¬c->ML n b):ML n (if c then a else b):=by
 by_cases h:c
 ·rw [if_pos h];exact ha h
 ·rw [if_neg h];exact hb h
theorem fU (plain:Bool) (pick kind:Int):∀(ps:List bw) (r:RunM),(ag plain pick kind r ps).1.h.mem=r.h.mem
 | [],r=>rfl
 | p::ps,r=>by
  unfold ag;split
  ·exact fU plain pick kind ps _
  ·rfl
theorem ru (plain:Bool) (pick:Int) (r:RunM) (kind va w:Int):(aw plain pick r kind va w).1.h.mem=r.h.mem:=by
 unfold aw;split
 ·split
  ·exact fU plain pick kind _ r
  ·exact fU plain pick kind _ r
 ·exact fU plain pick kind _ r
theorem Cu {n:Nat} (plain:Bool) (pick:Int) {r:RunM} (kind va w:Int) (h:ML n r):ML n (aw plain pick r kind va w).1:=by
 unfold ML;rw [ru];exact h
theorem AU {n:Nat} (plain:Bool) {pick ea w:Int} {r:RunM} (hp:0<=pick∧pick<=255) (hv:inU ea) (hw:1<=w∧w<=8) (hr:ROk r) (h:ML n r) (hc:(aw plain pick r 2 ea w).1.cause=0) (x:Int) (m:Nat):ML n (cT (aw plain pick r 2 ea w) (bM x m)):=by
 have k:=ic plain (kind:=2) hp ⟨by omega,by omega⟩ hv hw hr;have i:=ka (plain:=plain) (pick:=pick) (r:=r) (kind:=2) (va:=ea) (w:=w) hc;have:=(zd (aw plain pick r 2 ea w).2 (aw plain pick r 2 ea w).1.h.mem (bM x m) k.1.h.mem (eB m x) i k.2).1;show (iN (aw plain pick r 2 ea w).1.h.mem (aw plain pick r 2 ea w).2 (bM x m)).length=n;rw [this,ru];exact h
theorem Gv (h:HartM) (b s:Int):inU (eaM h b s):=by
 unfold eaM inU;omega
theorem FV {n:Nat} {r:RunM} (h:ML n r) (a x:Int):ML n (bW r a x):=h
theorem Et {n:Nat} {r:RunM} (h:ML n r) (a x:Int):ML n (bI r a x):=h
theorem Eu {n:Nat} {r:RunM} {h':HartM} (h:ML n r) (e:h'.mem=r.h.mem):ML n (bA r h'):=by
 unfold ML;show h'.mem.length=n;rw [e];exact h
theorem Gw {n:Nat} (plain:Bool) {pick pc op a b c s word:Int} {r:RunM} (hp:0<=pick∧pick<=255) (hc:0<=c) (hr:ROk r) (h:ML n r):ML n (doM plain pick r pc op a b c s word):=by
 unfold doM ia fx lC;repeat' (with_reducible refine rt (fun _=>?_) (fun _=>?_))
 all_goals try (with_reducible refine FV ?_ _ _)
 all_goals first
  | with_reducible exact h
  | with_reducible exact Et h _ _
  | with_reducible exact Cu plain pick _ _ _ h
  | ((with_reducible refine AU plain hp (Gv _ _ _) ?_ hr h (by assumption) _ _);first | exact kE c hc | exact ⟨by omega,by omega⟩)
  | ((with_reducible refine Eu h ?_);rfl)
  | (unfold ML;split <;> exact h)
theorem Ev (plain:Bool) {pick:Int} {h:HartM} (hp:0<=pick∧pick<=255) (hh:HOk h):(bT plain pick h).h.mem.length=h.mem.length:=by
 have h1:ML h.mem.length (bx plain pick h):=rfl;have k1:=ke plain pick hh;show ML h.mem.length (bT plain pick h);unfold bT kX;refine rt (fun _=>?_) (fun _=>rfl);unfold cY;generalize bx plain pick h=r at h1 k1 |-;refine rt (fun _=>rt (fun _=>rt (fun _=>?_) (fun _=>h1)) (fun _=>h1)) (fun _=>h1);unfold gE eT;exact Gw plain hp (by omega) (pJ (jm k1 plain hp (by omega) k1.h.pc)) h1
theorem Cv (plain:Bool):∀(ps:List Int) (h:HartM),HOk h->(∀y∈ps,0<=y∧y<=255)->(eI plain ps h).2.mem.length=h.mem.length∧(eI plain ps h).1.length=ps.length∧HOk (eI plain ps h).2
 | [],h,hk,_=>⟨rfl,rfl,hk⟩
 | y::ps,h,hk,hp=>by
  have h1:=hp y (by simp);have:=Cv plain ps (bT plain y h).h (oJ plain h1 hk).h (fun z hz=>hp z (by simp [hz]));rw [eI];exact ⟨this.1.trans (Ev plain h1 hk),by simp [this.2.1],this.2.2⟩
theorem mt {P:Program} {ops:Array Oper} {Q:Exit->Act->World->Prop} {F:World->Prop} {c:Nat} {fuel:Nat} {listed L:Array Bool} {a:Act} {w:World} (i1 i2 i3 j:Nat) {o1 o2 o3 oj:Oper} (d1 d2 d3 dj:Tmp) {Z:Array Value} {T:TypeId} {f2 f3:FuncId}
 (X:World->Value) (N:World->World) (args2 args3:Value->Array Value) (I1 I2 I3:Value->World->Prop)
 (e1:ops[i1]?=some o1) (e2:ops[i2]?=some o2) (e3:ops[i3]?=some o3) (ej:ops[j]?=some oj) (hL:(((listed.setIfInBounds i1 true).setIfInBounds i2 true).setIfInBounds i3 true).setIfInBounds j true=L)
 (hF:∀u,Bw w u->F u) (m1:∀x u v,I1 x u->Bw u v->I1 x v) (m2:∀x u v,I2 x u->Bw u v->I2 x v) (m3:∀x u v,I3 x u->Bw u v->I3 x v)
 (c1:∀u,Bw w u->I1 (X u) (N u)∧Bw u (N u))
 (c2:∀x u,Bw w u->I1 x u->Calls P f2 (args2 x) u fun e v=>(∃y,e=.returned y∧I2 y v)∧Bw u v)
 (c3:∀x u,Bw w u->I2 x u->Calls P f3 (args3 x) u fun e v=>(∃y,e=.returned y∧I3 y v)∧Bw u v)
 (h:∀x y z p v,I3 z v->w.heap.size<=p->v.heap[p]?=some (.cells Z T (0,0))->Bw w v->aV P ops Q F c fuel L ((((a.put (some d1) x).put (some d2) y).put (some d3) z).put (some dj) (PT p 0)) v)
 (hfl:flB ops L j [i1,i2,i3] listed=true:=by kernel_rfl)
 (dd:(o1.dst == some d1 && o2.dst == some d2 && o3.dst == some d3 && oj.dst == some dj && d1 != dj && d2 != dj && d3 != dj && o1.guard.isNone && o2.guard.isNone && o3.guard.isNone && oj.guard.isNone)=true:=by kernel_rfl)
 (x1:∀u,(execOp a.eval o1).run P u=.ok (.value (X u)) (N u):=by intro u;kernel_rfl) (x1':∀p u,(execOp (a.put (some dj) p).eval o1).run P u=.ok (.value (X u)) (N u):=by intro p u;kernel_rfl)
 (x2:∀x u,(execOp (a.put (some d1) x).eval o2).run P u=.ok (.enter f2 (args2 x)) u:=by intro x u;kernel_rfl) (x2':∀x p u,(execOp ((a.put (some d1) x).put (some dj) p).eval o2).run P u=.ok (.enter f2 (args2 x)) u:=by intro x p u;kernel_rfl)
 (x3:∀x y u,(execOp ((a.put (some d1) x).put (some d2) y).eval o3).run P u=.ok (.enter f3 (args3 y)) u:=by intro x y u;kernel_rfl) (x3':∀x y p u,(execOp (((a.put (some d1) x).put (some d2) y).put (some dj) p).eval o3).run P u=.ok (.enter f3 (args3 y)) u:=by intro x y p u;kernel_rfl)
 (xj:∀b u,(execOp b oj).run P u=.ok (.value (PT u.heap.size 0)) (u.alloc (.cells Z T)):=by intro b u;kernel_rfl):aV P ops Q F c (fuel+4) listed a w:=by
 simp only [Bool.and_eq_true,beq_iff_eq,bne_iff_ne,Option.isNone_iff_eq_none] at dd;obtain ⟨⟨⟨⟨⟨⟨⟨⟨⟨⟨t1,t2⟩,t3⟩,tj⟩,n1⟩,n2⟩,n3⟩,g1⟩,g2⟩,g3⟩,gj⟩:=dd;have AL:∀u,Bw w u->w.heap.size<=u.heap.size∧Bw w (u.alloc (.cells Z T))∧Bw u (u.alloc (.cells Z T))∧(u.alloc (.cells Z T)).heap[u.heap.size]?=some (.cells Z T (0,0)):=fun u hu=>⟨hu.size,bst hu (bF u Z T).2.2,(bF u Z T).2.2,(bF u Z T).1⟩;have S3:∀x y p v,I2 y v->w.heap.size<=p->v.heap[p]?=some (.cells Z T (0,0))->Bw w v->uF P ops Q F (fun a w=>aV P ops Q F c fuel L a w) [i3] (((a.put (some d1) x).put (some d2) y).put (some dj) (PT p 0)) v:=by
  intro x y p v hy hp hz hb;refine iZ i3 d3 t3 e3 g3 (x3' _ _ _ _) ((c3 y v hb hy).mono ?_);rintro e u ⟨⟨z,rfl,k⟩,n⟩;refine ⟨z,rfl,hF u (bst hb n),?_⟩;show aV P ops Q F c fuel L _ _;rw [jx (Ne.symm n3)];exact h x y z p u k hp (ae hz n (hpl hz)) (bst hb n)
 have S2:∀x p v,I1 x v->w.heap.size<=p->v.heap[p]?=some (.cells Z T (0,0))->Bw w v->uF P ops Q F (fun a w=>aV P ops Q F c fuel L a w) [i2,i3] ((a.put (some d1) x).put (some dj) (PT p 0)) v:=by
  intro x p v hx hp hz hb;refine iZ i2 d2 t2 e2 g2 (x2' _ _ _) ((c2 x v hb hx).mono ?_);rintro e u ⟨⟨y,rfl,k⟩,n⟩;refine ⟨y,rfl,hF u (bst hb n),?_⟩;rw [jx (Ne.symm n2)];exact S3 x y p u k hp (ae hz n (hpl hz)) (bst hb n)
 have S1:∀p v,w.heap.size<=p->v.heap[p]?=some (.cells Z T (0,0))->Bw w v->uF P ops Q F (fun a w=>aV P ops Q F c fuel L a w) [i1,i2,i3] (a.put (some dj) (PT p 0)) v:=by
  intro p v hp hz hb;obtain ⟨k,n⟩:=c1 v hb;refine il i1 d1 _ t1 e1 g1 (x1' _ _) ⟨hF _ (bst hb n),?_⟩;rw [jx (Ne.symm n1)];exact S2 _ p _ k hp (ae hz n (hpl hz)) (bst hb n)
 have hr:=Below.refl w.heap.size w;refine uG (fuel:=fuel) j [i1,i2,i3] _ _ _ hfl ⟨?_,?_⟩
 ·obtain ⟨k1,b1⟩:=c1 w hr;refine il i1 d1 _ t1 e1 g1 (x1 _) ⟨hF _ b1,?_,?_⟩
  ·refine iZ i2 d2 t2 e2 g2 (x2 _ _) ((c2 _ _ b1 k1).mono ?_);rintro e u ⟨⟨y,rfl,k2⟩,b⟩;have b2:=bst b1 b;refine ⟨y,rfl,hF u b2,?_,?_⟩
   ·refine iZ i3 d3 t3 e3 g3 (x3 _ _ _) ((c3 _ _ b2 k2).mono ?_);rintro e v ⟨⟨z,rfl,k3⟩,b⟩;have b3:=bst b2 b;refine ⟨z,rfl,hF v b3,?_⟩;obtain ⟨l,q1,q2,q3⟩:=AL v b3;exact il j dj _ tj ej gj (xj _ _) ⟨hF _ q1,h _ y z _ _ (m3 _ _ _ k3 q2) l q3 q1⟩
   ·obtain ⟨l,q1,q2,q3⟩:=AL u b2;exact il j dj _ tj ej gj (xj _ _) ⟨hF _ q1,S3 _ y _ _ (m2 _ _ _ k2 q2) l q3 q1⟩
  ·obtain ⟨l,q1,q2,q3⟩:=AL _ b1;exact il j dj _ tj ej gj (xj _ _) ⟨hF _ q1,S2 _ _ _ (m1 _ _ _ k1 q2) l q3 q1⟩
 ·obtain ⟨l,q1,q2,q3⟩:=AL w hr;exact il j dj _ tj ej gj (xj _ _) ⟨hF _ q1,S1 _ _ l q3 q1⟩
end Go.Proofs.YthdgiakgepmabaaGreat
