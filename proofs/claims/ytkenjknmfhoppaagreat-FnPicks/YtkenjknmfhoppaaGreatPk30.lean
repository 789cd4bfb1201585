import Derived.Test.YtkenjknmfhoppaaGreatPk08
namespace Go.Proofs.YtkenjknmfhoppaaGreat
open Go.RowKit
set_option linter.unusedVariables false
set_option maxHeartbeats 6400000
set_option maxRecDepth 20000
theorem pG (p q:Int) (h:HartM) (kind va:Int):aV true p h kind va=aV true q h kind va:=by unfold aV;simp
theorem vy (p q:Int) (r:RunM) (kind va:Int):bf true p r kind va=bf true q r kind va:=by unfold bf;rw [pG p q]
theorem ma (p q kind:Int):∀(ps:List bH) (r:RunM),ag true p kind r ps=ag true q kind r ps
 | [],r=>rfl
 | x::ps,r=>by rw [ag,ag,pG p q,vy p q,ma p q kind ps]
theorem Bb (p q:Int) (r:RunM) (kind va w:Int):aw true p r kind va w=aw true q r kind va w:=by unfold aw;rw [ma p q]
theorem Hk (p q:Int) (r:RunM) (pc op a b c s word:Int):doM true p r pc op a b c s word=doM true q r pc op a b c s word:=by
 unfold doM iB fJ mg;simp only [Bb p q]
theorem DS (p q:Int) (r:RunM):dn true p r=dn true q r:=by
 unfold dn hH fj jf;simp only [pG p q,vy p q,Hk p q]
theorem Bc (p q:Int) (h:HartM):bI true p h=bI true q h:=by unfold bI fi;simp
theorem DT (p q:Int) (h:HartM):bT true p h=bT true q h:=by unfold bT;rw [DS p q,Bc p q]
theorem zJ:∀(ps qs:List Int) (h:HartM) (gs:List ay) (i:Nat),ps.length=qs.length->jV ps h gs i=jV qs h gs i
 | [],[],h,gs,i,_=>rfl
 | p::ps,q::qs,h,gs,i,hl=>by
  rw [jV,jV,DT p q];split
  ·exact zJ ps qs _ _ _ (by simpa using hl)
  ·rfl
 | [],q::qs,h,gs,i,hl=>by simp at hl
 | p::ps,[],h,gs,i,hl=>by simp at hl
def Kf:List Int->HartM->Prop
 | [],h=>True
 | p::ps,h=>onM h.mode h.satp=false∧Kf ps (bT true p h).h
theorem J8 {h:HartM} (ho:onM h.mode h.satp=false):∀(ls:List (Int × Int)) (gs:List ay),be h ls gs=(true,gs)
 | [],gs=>rfl
 | l::ls,gs=>by
  have:dl gs h l=(true,gs):=by unfold dl;rw [if_pos (.inl ho)]
  rw [be,this];simp only [if_true];exact J8 ho ls gs
theorem Kg:∀(ps:List Int) (h:HartM) (gs:List ay) (i:Nat),Kf ps h->jV ps h gs i=(true,i+ps.length)
 | [],h,gs,i,_=>rfl
 | p::ps,h,gs,i,ho=>by
  rw [jV,J8 ho.1];simp only [if_true];rw [Kg ps _ _ _ ho.2,List.length_cons,Nat.add_assoc,Nat.add_comm 1]
def Like (g h:HartM):Prop:=h.mem=g.mem∧h.mode=g.mode∧h.sum=g.sum∧h.mxr=g.mxr∧h.satp=g.satp
theorem Like.refl (h:HartM):Like h h:=⟨rfl,rfl,rfl,rfl,rfl⟩
theorem uI {g h:HartM} (hl:Like g h) (kind va:Int):∀(rs:List aQ) (gs:List ay),dU h kind va rs gs=dU g kind va rs gs
 | [],gs=>rfl
 | r::rs,gs=>by
  rw [dU,dU,hl.2.1,hl.2.2.1,hl.2.2.2.1,hl.2.2.2.2];exact uI hl kind va rs _
theorem Al {g h:HartM} (hl:Like g h) (gs:List ay) (l:Int × Int):dl gs h l=dl gs g l:=by
 unfold dl lJ;rw [uI hl,hl.1,hl.2.1,hl.2.2.2.2]
theorem ko (h:HartM):∀(a b:List (Int × Int)) (gs:List ay),(be h (a++b) gs).1=true->(be h a gs).1=true∧be h (a++b) gs=be h b (be h a gs).2
 | [],b,gs,hj=>⟨rfl,rfl⟩
 | l::a,b,gs,hj=>by
  simp only [List.cons_append,be] at hj |-;split at hj
  ·rename_i h1;rw [if_pos h1,if_pos h1];exact ko h a b _ hj
  ·cases hj
def Jd (g:HartM) (gs:List ay) (r:RunM):Prop:=(be g r.looks gs).1=true
theorem Jd.pfx {g:HartM} {gs:List ay} {r r':RunM} (h:Jd g gs r') (hp:r.looks<+:r'.looks):Jd g gs r:=by
 obtain ⟨t,ht⟩:=hp;unfold Jd at h;rw [<-ht] at h;exact (ko g r.looks t gs h).1
structure Sim (g:HartM) (gs:List ay) (rc rp:RunM):Prop where
 eq:rc=bM rp (withK rp.h rc.h.k)
 good:cS rc.h.k=true
 cov:CovK rc.h.k (eu rp (be g rp.looks gs).2)
theorem mZ {r:RunM} {gs:List ay} (h:r.fenced=false):eu r gs=gs:=by
 unfold eu;rw [h];rfl
theorem Kd {g:HartM} {gs:List ay} {rc rp:RunM} {kind va pick pick':Int} (hs:Sim g gs rc rp) (hl:Like g rp.h) (hf:rp.fenced=false) (hm:0<=rp.h.mode∧rp.h.mode<=2) (hk:0<=kind∧kind<=2) (hp:0<=pick∧pick<=255) (hj:Jd g gs (bf true pick' rp kind va)):
 Sim g gs (bf false pick rc kind va) (bf true pick' rp kind va)∧(aV false pick rc.h kind va).1=(aV true pick' rp.h kind va).1:=by
 obtain ⟨he,hg,hc⟩:=hs;generalize rc.h.k=k at he hg hc;subst he;unfold Jd at hj;obtain ⟨j1,j2⟩:=ko g rp.looks [(kind,va)] gs hj;have j3:(be g (rp.looks++[(kind,va)]) gs).1=true:=hj;rw [j2] at j3;rw [mZ hf] at hc;have j4:(dl (be g rp.looks gs).2 g (kind,va)).1=true:=by
  rw [be] at j3;split at j3
  ·assumption
  ·cases j3
 have j5:(be g (rp.looks++[(kind,va)]) gs).2=(dl (be g rp.looks gs).2 g (kind,va)).2:=by
  rw [j2,be,if_pos j4];rfl
 rw [<-Al hl] at j4 j5;obtain ⟨t1,t2⟩:=AS rp.h k _ kind va pick hg hc hk hm hp j4;have tg:=tX rp.h.mem rp.h.mode rp.h.sum rp.h.mxr rp.h.satp k kind va pick hg hk hm hp;have e1:aV false pick (withK rp.h k) kind va=cD rp.h.mem rp.h.mode rp.h.sum rp.h.mxr rp.h.satp k kind va pick:=rfl;have e2:aV true pick' rp.h kind va=(gx rp.h.mem rp.h.mode rp.h.sum rp.h.mxr rp.h.satp kind va,rp.h.k):=rfl;refine ⟨⟨rfl,tg,?_⟩,?_⟩
 ·rw [mZ (show (bf true pick' rp kind va).fenced=false from hf)];show CovK (cD rp.h.mem rp.h.mode rp.h.sum rp.h.mxr rp.h.satp k kind va pick).2 (be g (rp.looks++[(kind,va)]) gs).2;rw [j5];exact t2
 ·show (aV false pick (withK rp.h k) kind va).1=_;rw [e1,e2];exact t1
theorem rr (plain:Bool) (pick kind va:Int) (r:RunM):r.looks<+:(bf plain pick r kind va).looks:=⟨[(kind,va)],rfl⟩
theorem fK (plain:Bool) (pick kind:Int):∀(ps:List bH) (r:RunM),r.looks<+:(ag plain pick kind r ps).1.looks
 | [],r=>List.prefix_rfl
 | p::ps,r=>by
  rw [ag];split
  ·exact (rr plain pick kind p.1 r).trans (fK plain pick kind ps _)
  ·exact rr plain pick kind p.1 r
theorem iV {g:HartM} {gs:List ay} {rc rp:RunM} (hs:Sim g gs rc rp) (c t:Int):Sim g gs (bS rc c t) (bS rp c t):=by
 obtain ⟨he,hg,hc⟩:=hs;generalize rc.h.k=k at he hg hc;subst he;exact ⟨rfl,hg,hc⟩
theorem mx {g:HartM} {gs:List ay} {kind pick pick':Int} (hk:0<=kind∧kind<=2) (hp:0<=pick∧pick<=255):∀(ps:List bH) (rc rp:RunM),Sim g gs rc rp->Like g rp.h->rp.fenced=false->(0<=rp.h.mode∧rp.h.mode<=2)->
 Jd g gs (ag true pick' kind rp ps).1->Sim g gs (ag false pick kind rc ps).1 (ag true pick' kind rp ps).1∧(ag false pick kind rc ps).2=(ag true pick' kind rp ps).2
 | [],rc,rp,hs,hl,hf,hm,hj=>⟨hs,rfl⟩
 | p::ps,rc,rp,hs,hl,hf,hm,hj=>by
  have hj0:Jd g gs (bf true pick' rp kind p.1):=by
   refine hj.pfx ?_;rw [ag];split
   ·exact fK true pick' kind ps _
   ·exact List.prefix_rfl
  obtain ⟨s1,s2⟩:=Kd (pick:=pick) hs hl hf hm hk hp hj0;rw [ag,ag,s2];rw [ag] at hj;by_cases h0:(aV true pick' rp.h kind p.1).1.1=0
  ·rw [if_pos h0,if_pos h0];rw [if_pos h0] at hj;obtain ⟨q1,q2⟩:=mx hk hp ps _ _ s1 hl hf hm hj;exact ⟨q1,by rw [q2]⟩
  ·rw [if_neg h0,if_neg h0];exact ⟨iV s1 _ _,rfl⟩
theorem lj (plain:Bool) (pick kind va w:Int) (r:RunM):r.looks<+:(aw plain pick r kind va w).1.looks:=by
 unfold aw;split
 ·split <;> exact fK plain pick kind _ r
 ·exact fK plain pick kind _ r
theorem Sim.cause {g:HartM} {gs:List ay} {rc rp:RunM} (h:Sim g gs rc rp):rc.cause=rp.cause:=by rw [h.eq];rfl
theorem Sim.tval {g:HartM} {gs:List ay} {rc rp:RunM} (h:Sim g gs rc rp):rc.tval=rp.tval:=by rw [h.eq];rfl
theorem Sim.mem {g:HartM} {gs:List ay} {rc rp:RunM} (h:Sim g gs rc rp):rc.h.mem=rp.h.mem:=by rw [h.eq];rfl
theorem Sim.regs {g:HartM} {gs:List ay} {rc rp:RunM} (h:Sim g gs rc rp):rc.h.regs=rp.h.regs:=by rw [h.eq];rfl
theorem qG {g:HartM} {gs:List ay} {kind pick pick' va w:Int} {rc rp:RunM} (hk:0<=kind∧kind<=2) (hp:0<=pick∧pick<=255) (hs:Sim g gs rc rp) (hl:Like g rp.h) (hf:rp.fenced=false) (hm:0<=rp.h.mode∧rp.h.mode<=2)
 (hj:Jd g gs (aw true pick' rp kind va w).1):Sim g gs (aw false pick rc kind va w).1 (aw true pick' rp kind va w).1∧(aw false pick rc kind va w).2=(aw true pick' rp kind va w).2:=by
 have hj0:Jd g gs (ag true pick' kind rp (cM va w)).1:=by
  refine hj.pfx ?_;unfold aw;split
  ·split <;> exact List.prefix_rfl
  ·exact List.prefix_rfl
 obtain ⟨s1,s2⟩:=mx (pick:=pick) hk hp _ _ _ hs hl hf hm hj0;unfold aw;rw [s2,s1.cause,s1.mem];split
 ·split
  ·exact ⟨s1,s2⟩
  ·exact ⟨iV s1 _ _,rfl⟩
 ·exact ⟨s1,s2⟩
theorem gU {g:HartM} {gs:List ay} {rc rp:RunM} (hs:Sim g gs rc rp) (hc hp:HartM) (h:hc=withK hp rc.h.k):Sim g gs (bM rc hc) (bM rp hp):=by
 obtain ⟨he,hg,hv⟩:=hs;generalize rc.h.k=k at he hg hv h;subst he;subst h;exact ⟨rfl,hg,hv⟩
theorem iE {g:HartM} {gs:List ay} {rc rp:RunM} (hs:Sim g gs rc rp) (a x:Int):Sim g gs (cz rc a x) (cz rp a x):=by
 unfold cz;refine gU hs _ _ ?_;rw [hs.regs];have:=hs.eq;generalize rc.h.k=k at this |-;subst this;rfl
theorem Gt {g:HartM} {gs:List ay} {rc rp:RunM} (hs:Sim g gs rc rp) (m:List Int):Sim g gs (bM rc (et rc.h m)) (bM rp (et rp.h m)):=by
 refine gU hs _ _ ?_;have:=hs.eq;generalize rc.h.k=k at this |-;subst this;rfl
theorem yc (plain:Bool) (pick ea w a:Int) (r:RunM):r.looks<+:(iB plain pick r ea w a).looks:=by
 unfold iB;split <;> exact lj plain pick _ _ _ r
theorem wj (plain:Bool) (pick ea w x:Int) (r:RunM):r.looks<+:(fJ plain pick r ea w x).looks:=by
 unfold fJ;split <;> exact lj plain pick _ _ _ r
theorem Am (plain:Bool) (pick ea a x:Int) (r:RunM):r.looks<+:(mg plain pick r ea a x).looks:=by
 unfold mg;split <;> exact lj plain pick _ _ _ r
theorem CH (plain:Bool) (pick:Int) (r:RunM) (pc op a b c s word:Int):r.looks<+:(doM plain pick r pc op a b c s word).looks:=by
 unfold doM;by_cases hi:bR op c r.h.mode=true
 ·rw [if_pos hi];exact List.prefix_rfl
 rw [if_neg hi];by_cases o1:op=1
 ·rw [if_pos o1];exact List.prefix_rfl
 rw [if_neg o1];by_cases o2:op=2
 ·rw [if_pos o2];exact List.prefix_rfl
 rw [if_neg o2];by_cases o3:op=3
 ·rw [if_pos o3];exact List.prefix_rfl
 rw [if_neg o3];by_cases o4:op=4
 ·rw [if_pos o4];exact List.prefix_rfl
 rw [if_neg o4];by_cases o5:op=5
 ·rw [if_pos o5];exact yc plain pick _ _ _ r
 rw [if_neg o5];by_cases o6:op=6
 ·rw [if_pos o6];exact wj plain pick _ _ _ r
 rw [if_neg o6];by_cases o7:op=7
 ·rw [if_pos o7];exact Am plain pick _ _ _ r
 rw [if_neg o7];by_cases o8:op=8
 ·rw [if_pos o8];split <;> exact List.prefix_rfl
 rw [if_neg o8];by_cases o9:op=9
 ·rw [if_pos o9];split <;> exact List.prefix_rfl
 rw [if_neg o9];by_cases o10:op=10
 ·rw [if_pos o10];exact List.prefix_rfl
 rw [if_neg o10];by_cases o11:op=11
 ·rw [if_pos o11];exact List.prefix_rfl
 rw [if_neg o11];by_cases o12:op=12
 ·rw [if_pos o12];exact List.prefix_rfl
 rw [if_neg o12];by_cases o13:op=13
 ·rw [if_pos o13];exact List.prefix_rfl
 rw [if_neg o13];by_cases o14:op=14
 ·rw [if_pos o14];exact List.prefix_rfl
 rw [if_neg o14];exact List.prefix_rfl
theorem Ev {g:HartM} {gs:List ay} {rc rp:RunM} {pick pick' ea w a:Int} (hp:0<=pick∧pick<=255) (hs:Sim g gs rc rp) (hl:Like g rp.h) (hf:rp.fenced=false) (hm:0<=rp.h.mode∧rp.h.mode<=2)
 (hj:Jd g gs (iB true pick' rp ea w a)):Sim g gs (iB false pick rc ea w a) (iB true pick' rp ea w a):=by
 unfold iB at hj |-;have hj0:Jd g gs (aw true pick' rp 1 ea w).1:=by
  refine hj.pfx ?_;split <;> exact List.prefix_rfl
 obtain ⟨s1,s2⟩:=qG (pick:=pick) (by omega) hp hs hl hf hm hj0;rw [s2,s1.cause,s1.mem];split
 ·exact iE s1 _ _
 ·exact s1
theorem sM {g:HartM} {gs:List ay} {rc rp:RunM} (hs:Sim g gs rc rp) (ps:List bH) (b:List Int):Sim g gs (dg (rc,ps) b) (dg (rp,ps) b):=by
 unfold dg;simp only;rw [hs.mem];exact Gt hs _
theorem CK {g:HartM} {gs:List ay} {rc rp:RunM} {pick pick' ea w x:Int} (hp:0<=pick∧pick<=255) (hs:Sim g gs rc rp) (hl:Like g rp.h) (hf:rp.fenced=false) (hm:0<=rp.h.mode∧rp.h.mode<=2)
 (hj:Jd g gs (fJ true pick' rp ea w x)):Sim g gs (fJ false pick rc ea w x) (fJ true pick' rp ea w x):=by
 unfold fJ at hj |-;have hj0:Jd g gs (aw true pick' rp 2 ea w).1:=by
  refine hj.pfx ?_;split <;> exact List.prefix_rfl
 obtain ⟨s1,s2⟩:=qG (pick:=pick) (by omega) hp hs hl hf hm hj0;have e1:aw false pick rc 2 ea w=((aw false pick rc 2 ea w).1,(aw true pick' rp 2 ea w).2):=by rw [<-s2]
 rw [s1.cause];split
 ·rw [e1];exact sM s1 _ _
 ·exact s1
theorem Gu {g:HartM} {gs:List ay} {rc rp:RunM} {pick pick' ea a x:Int} (hp:0<=pick∧pick<=255) (hs:Sim g gs rc rp) (hl:Like g rp.h) (hf:rp.fenced=false) (hm:0<=rp.h.mode∧rp.h.mode<=2)
 (hj:Jd g gs (mg true pick' rp ea a x)):Sim g gs (mg false pick rc ea a x) (mg true pick' rp ea a x):=by
 unfold mg at hj |-;have hj0:Jd g gs (aw true pick' rp 2 ea 8).1:=by
  refine hj.pfx ?_;split <;> exact List.prefix_rfl
 obtain ⟨s1,s2⟩:=qG (pick:=pick) (by omega) hp hs hl hf hm hj0;have e1:aw false pick rc 2 ea 8=((aw false pick rc 2 ea 8).1,(aw true pick' rp 2 ea 8).2):=by rw [<-s2]
 rw [s1.cause];split
 ·rw [s2,s1.mem,e1];exact iE (sM s1 _ _) _ _
 ·exact s1
theorem Iu {g:HartM} {gs:List ay} {rc rp:RunM} {pick pick' pc op a b c s word:Int} (hp:0<=pick∧pick<=255) (hs:Sim g gs rc rp) (hl:Like g rp.h) (hf:rp.fenced=false) (hm:0<=rp.h.mode∧rp.h.mode<=2)
 (hj:Jd g gs (doM true pick' rp pc op a b c s word)):Sim g gs (doM false pick rc pc op a b c s word) (doM true pick' rp pc op a b c s word):=by
 have he:=hs.eq;have e1:rc.h.mode=rp.h.mode:=by rw [he];rfl
 have e2:∀x,gu rc.h x=gu rp.h x:=fun x=>by rw [he];rfl
 have e3:∀x y,eaM rc.h x y=eaM rp.h x y:=fun x y=>by rw [he];rfl
 unfold doM at hj |-;simp only [e1,e2,e3];by_cases hi:bR op c rp.h.mode=true
 ·rw [if_pos hi,if_pos hi];exact iV hs _ _
 rw [if_neg hi,if_neg hi];rw [if_neg hi] at hj;by_cases o1:op=1
 ·rw [if_pos o1,if_pos o1];exact iE hs _ _
 rw [if_neg o1,if_neg o1];rw [if_neg o1] at hj;by_cases o2:op=2
 ·rw [if_pos o2,if_pos o2];exact iE hs _ _
 rw [if_neg o2,if_neg o2];rw [if_neg o2] at hj;by_cases o3:op=3
 ·rw [if_pos o3,if_pos o3];exact iE hs _ _
 rw [if_neg o3,if_neg o3];rw [if_neg o3] at hj;by_cases o4:op=4
 ·rw [if_pos o4,if_pos o4];exact iE hs _ _
 rw [if_neg o4,if_neg o4];rw [if_neg o4] at hj;by_cases o5:op=5
 ·rw [if_pos o5,if_pos o5];rw [if_pos o5] at hj;exact Ev hp hs hl hf hm hj
 rw [if_neg o5,if_neg o5];rw [if_neg o5] at hj;by_cases o6:op=6
 ·rw [if_pos o6,if_pos o6];rw [if_pos o6] at hj;exact CK hp hs hl hf hm hj
 rw [if_neg o6,if_neg o6];rw [if_neg o6] at hj;by_cases o7:op=7
 ·rw [if_pos o7,if_pos o7];rw [if_pos o7] at hj;exact Gu hp hs hl hf hm hj
 rw [if_neg o7,if_neg o7];rw [if_neg o7] at hj;have hhe:rc.h=withK rp.h rc.h.k:=by
  have:=congrArg RunM.h he;exact this
 by_cases o8:op=8
 ·rw [if_pos o8,if_pos o8];split
  ·exact hs
  ·exact gU hs _ _ (by rw [hhe];rfl)
 rw [if_neg o8,if_neg o8];rw [if_neg o8] at hj;by_cases o9:op=9
 ·rw [if_pos o9,if_pos o9];split
  ·exact gU hs _ _ (by rw [hhe];rfl)
  ·exact hs
 rw [if_neg o9,if_neg o9];rw [if_neg o9] at hj;by_cases o10:op=10
 ·rw [if_pos o10,if_pos o10];exact gU hs _ _ (by rw [hhe];rfl)
 rw [if_neg o10,if_neg o10];rw [if_neg o10] at hj;by_cases o11:op=11
 ·rw [if_pos o11,if_pos o11];have ef:kf rc.h a b=kf rp.h a b:=by unfold kf;rw [e2,e2]
  rw [ef];have hg:=hs.good;have hc:=hs.cov;rw [mZ hf] at hc;generalize rc.h.k=k at he hg hc;subst he;refine ⟨rfl,rF k _ hg,?_⟩;exact hc.flush hg
 rw [if_neg o11,if_neg o11];rw [if_neg o11] at hj;by_cases o12:op=12
 ·rw [if_pos o12,if_pos o12];exact gU hs _ _ (by rw [hhe];rfl)
 rw [if_neg o12,if_neg o12];by_cases o13:op=13
 ·rw [if_pos o13,if_pos o13];exact gU hs _ _ (by rw [hhe];rfl)
 rw [if_neg o13,if_neg o13];by_cases o14:op=14
 ·rw [if_pos o14,if_pos o14];exact iV hs _ _
 rw [if_neg o14,if_neg o14];exact iV hs _ _
theorem An (plain:Bool) (pick:Int) (r:RunM) (x:Int):r.looks<+:(hH plain pick r x).looks:=by
 unfold hH fj;have:=CH plain pick (bM r (dX r.h ((r.h.pc+4)%18446744073709551616))) r.h.pc (x%256) (x/256%256%8) (x/256%256/8%8) (x/65536%256%8) (x/16777216) x;generalize doM plain pick (bM r (dX r.h ((r.h.pc+4)%18446744073709551616))) r.h.pc (x%256) (x/256%256%8) (x/256%256/8%8) (x/65536%256%8) (x/16777216) x=y at this |-;exact this
theorem Gv {g:HartM} {gs:List ay} {rc rp:RunM} {pick pick' x:Int} (hp:0<=pick∧pick<=255) (hs:Sim g gs rc rp) (hl:Like g rp.h) (hf:rp.fenced=false) (hm:0<=rp.h.mode∧rp.h.mode<=2)
 (hj:Jd g gs (hH true pick' rp x)):Sim g gs (hH false pick rc x) (hH true pick' rp x):=by
 have hhe:rc.h=withK rp.h rc.h.k:=congrArg RunM.h hs.eq;have epc:rc.h.pc=rp.h.pc:=by rw [hhe];rfl
 have s3:Sim g gs (bM rc (dX rc.h ((rc.h.pc+4)%18446744073709551616))) (bM rp (dX rp.h ((rp.h.pc+4)%18446744073709551616))):=by
  refine gU hs _ _ ?_;rw [epc];generalize rc.h.k=k at hhe |-;rw [hhe];rfl
 unfold hH fj at hj |-;rw [epc] at s3 |-;exact Iu hp s3 hl hf hm hj
theorem Ew {g:HartM} {gs:List ay} {rc rp:RunM} {pick pick':Int} (hp:0<=pick∧pick<=255) (hs:Sim g gs rc rp) (hl:Like g rp.h) (hf:rp.fenced=false) (hm:0<=rp.h.mode∧rp.h.mode<=2)
 (hj:Jd g gs (dn true pick' rp)):Sim g gs (dn false pick rc) (dn true pick' rp):=by
 have he:=hs.eq;have hhe:rc.h=withK rp.h rc.h.k:=congrArg RunM.h he;have epc:rc.h.pc=rp.h.pc:=by rw [hhe];rfl
 unfold dn at hj |-;simp only [epc,hs.mem];by_cases h4:¬rp.h.pc%4=0
 ·rw [if_neg h4,if_neg h4];exact iV hs _ _
 have h4:=Decidable.not_not.1 h4;rw [if_pos h4,if_pos h4];rw [if_pos h4] at hj;have hj0:Jd g gs (bf true pick' rp 0 rp.h.pc):=by
  refine hj.pfx ?_;generalize hz:bf true pick' rp 0 rp.h.pc=z;split
  ·split
   ·exact An true pick' z _
   ·exact List.prefix_rfl
  ·exact List.prefix_rfl
 obtain ⟨s1,s2⟩:=Kd (pick:=pick) hs hl hf hm (by omega) hp hj0;rw [s2];by_cases h0:¬(aV true pick' rp.h 0 rp.h.pc).1.1=0
 ·rw [if_neg h0,if_neg h0];exact iV s1 _ _
 have h0:=Decidable.not_not.1 h0;rw [if_pos h0,if_pos h0];rw [if_pos h0] at hj;have ew:jf false pick rc.h=jf true pick' rp.h:=by unfold jf;rw [hs.mem,epc,s2]
 rw [ew];split
 ·rename_i hg;rw [if_pos hg] at hj;exact Gv hp s1 hl hf hm hj
 ·exact iV s1 _ _
theorem Ex {h:HartM} {k:KM} {gs:List ay} {pick pick':Int} (hp:0<=pick∧pick<=255) (hk:cS k=true) (hc:CovK k gs) (hm:0<=h.mode∧h.mode<=2) (hj:(be h (bT true pick' h).looks gs).1=true):
 ∃k',bT false pick (withK h k)=bM (bT true pick' h) (withK (bT true pick' h).h k')∧cS k'=true∧CovK k' (eu (bT true pick' h) (be h (bT true pick' h).looks gs).2):=by
 have s0:Sim h gs (bI false pick (withK h k)) (bI true pick' h):=by
  refine ⟨?_,tN false pick k hk,?_⟩
  ·unfold bI;have:fi true pick' h.k=h.k:=by unfold fi;rw [if_neg (by simp)]
   rw [this];rfl
  ·rw [mZ rfl];exact hc.evict
 have hl:Like h (bI true pick' h).h:=⟨rfl,rfl,rfl,rfl,rfl⟩;have e:(bT true pick' h).looks=(dn true pick' (bI true pick' h)).looks:=by
  unfold bT lQ;split <;> rfl
 have hj1:Jd h gs (dn true pick' (bI true pick' h)):=by
  unfold Jd;rw [<-e];exact hj
 have s1:=Ew (pick:=pick) hp s0 hl rfl hm hj1;have ef:eu (bT true pick' h) (be h (bT true pick' h).looks gs).2=eu (dn true pick' (bI true pick' h)) (be h (dn true pick' (bI true pick' h)).looks gs).2:=by
  unfold bT lQ;split <;> rfl
 rw [ef];refine ⟨(dn false pick (bI false pick (withK h k))).h.k,?_,s1.good,s1.cov⟩;unfold bT lQ;rw [s1.cause];split
 ·exact s1.eq
 ·unfold dB;rw [s1.cause,s1.tval];have:=s1.eq;generalize (dn false pick (bI false pick (withK h k))).h.k=k' at this;rw [this];rfl
def fx (h:HartM):Prop:=(0<=h.mode∧h.mode<=2)∧(0<=h.emode∧h.emode<=2)
theorem Ey {r:RunM} {plain:Bool} {pick pc op a b c s word:Int} (hc:0<=c) (hm:fx r.h):fx (doM plain pick r pc op a b c s word).h:=by
 have tp:∀(kind:Int) (ps:List bH) (r:RunM),fx r.h->fx (ag plain pick kind r ps).1.h:=by
  intro kind ps
  induction ps with
  | nil=>intro r h;exact h
  | cons p ps ih=>
   intro r h;rw [ag];split
   ·exact ih _ h
   ·exact h
 have pp:∀kind va w,fx (aw plain pick r kind va w).1.h:=by
  intro kind va w;unfold aw;split
  ·split <;> exact tp kind _ r hm
  ·exact tp kind _ r hm
 unfold doM;by_cases hi:bR op c r.h.mode=true
 ·rw [if_pos hi];exact hm
 rw [if_neg hi];by_cases o1:op=1
 ·rw [if_pos o1];exact hm
 rw [if_neg o1];by_cases o2:op=2
 ·rw [if_pos o2];exact hm
 rw [if_neg o2];by_cases o3:op=3
 ·rw [if_pos o3];exact hm
 rw [if_neg o3];by_cases o4:op=4
 ·rw [if_pos o4];exact hm
 rw [if_neg o4];by_cases o5:op=5
 ·rw [if_pos o5];unfold iB;split <;> exact pp _ _ _
 rw [if_neg o5];by_cases o6:op=6
 ·rw [if_pos o6];unfold fJ;split <;> exact pp _ _ _
 rw [if_neg o6];by_cases o7:op=7
 ·rw [if_pos o7];unfold mg;split <;> exact pp _ _ _
 rw [if_neg o7];by_cases o8:op=8
 ·rw [if_pos o8];split <;> exact hm
 rw [if_neg o8];by_cases o9:op=9
 ·rw [if_pos o9];split <;> exact hm
 rw [if_neg o9];by_cases o10:op=10
 ·rw [if_pos o10];exact hm
 rw [if_neg o10];by_cases o11:op=11
 ·rw [if_pos o11];cases plain <;> exact hm
 rw [if_neg o11];by_cases o12:op=12
 ·rw [if_pos o12];exact ⟨hm.2,hm.2⟩
 rw [if_neg o12];by_cases o13:op=13
 ·rw [if_pos o13];refine ⟨hm.1,hc,?_⟩;show c<=2;simp only [bR,Bool.or_eq_true,decide_eq_true_eq,not_or] at hi;omega
 rw [if_neg o13];by_cases o14:op=14
 ·rw [if_pos o14];exact hm
 rw [if_neg o14];exact hm
theorem CQ {r:RunM} {plain:Bool} {pick x:Int} (hm:fx r.h):fx (hH plain pick r x).h:=by
 unfold hH fj;have hm':fx (bM r (dX r.h ((r.h.pc+4)%18446744073709551616))).h:=hm;generalize bM r (dX r.h ((r.h.pc+4)%18446744073709551616))=y at hm' |-;exact Ey (by omega) hm'
theorem Ao {r:RunM} {plain:Bool} {pick:Int} (hm:fx r.h):fx (dn plain pick r).h:=by
 have hm':fx (bf plain pick r 0 r.h.pc).h:=hm;unfold dn;generalize bf plain pick r 0 r.h.pc=z at hm' |-;split
 ·split
  ·split
   ·exact CQ hm'
   ·exact hm'
  ·exact hm'
 ·exact hm
theorem Ap {h:HartM} {plain:Bool} {pick:Int} (hm:fx h):fx (bT plain pick h).h:=by
 have hb:fx (dn plain pick (bI plain pick h)).h:=Ao hm;unfold bT lQ;generalize dn plain pick (bI plain pick h)=z at hb |-;split
 ·exact hb
 ·exact ⟨⟨by simp [bM,dB],by simp [bM,dB]⟩,hm.1⟩
theorem Ez (ps:List Int):∀(qs:List Int) (h:HartM) (k:KM) (gs:List ay) (i:Nat),qs.length=ps.length->(∀q∈qs,0<=q∧q<=255)->cS k=true->CovK k gs->fx h->(jV ps h gs i).1=true->
 (eM false qs (withK h k)).1=(eM true ps h).1∧∃k',(eM false qs (withK h k)).2=withK (eM true ps h).2 k':=by
 induction ps with
 | nil=>
  intro qs h k gs i hl _ _ _ _ _;rw [List.length_nil,List.length_eq_zero_iff] at hl;subst hl;exact ⟨rfl,k,rfl⟩
 | cons p ps ih=>
  intro qs h k gs i hl hq hk hc hm hd;cases qs with
  | nil=>simp at hl
  | cons q qs=>
   have hs:=@Ex h k gs q p (hq q (List.mem_cons_self ..)) hk hc hm.1;have hmm:=@Ap h true p hm;rw [jV] at hd;rw [eM,eM];generalize bT true p h=sp at hs hmm hd |-;generalize bT false q (withK h k)=sc at hs |-;split at hd
   ·rename_i hj;obtain ⟨k',rfl,e2,e3⟩:=hs hj;obtain ⟨r1,r2⟩:=ih qs sp.h k' _ (i+1) (by simpa using hl) (fun x hx=>hq x (List.mem_cons_of_mem _ hx)) e2 e3 hmm hd;have e4:(bM sp (withK sp.h k')).h=withK sp.h k':=rfl;rw [e4,r1];exact ⟨rfl,r2⟩
   ·cases hd
def pkE (b:List Int):Nat->Nat->Nat
 | 0,i=>i
 | n+1,i=>pkE b n (i+3+(atM b (i+2)).toNat)
theorem BL (b:List Int):∀n i:Nat,i<=pkE b n i
 | 0,i=>Nat.le_refl _
 | n+1,i=>Nat.le_trans (by omega) (BL b n _)
theorem Ia {b:List Int} (h:∀i:Nat,0<=b[i]?.getD 0∧b[i]?.getD 0<=255):∀n i:Nat,pkE b n i<=i+258*n
 | 0,i=>Nat.le_refl _
 | n+1,i=>by
  have h1:=Ia h n (i+3+(atM b (i+2)).toNat);have h2:=(h (i+2)).2;have h3:atM b (i+2)=b[i+2]?.getD 0:=rfl;rw [pkE];omega
theorem yW {b c:List Int}:∀(m i a:Nat) (mem:List Int),(∀j,j<i+m->atM c j=atM b j)->jW c m i a mem=jW b m i a mem
 | 0,i,a,mem,h=>rfl
 | m+1,i,a,mem,h=>by
  rw [jW,jW,h i (by omega),yW m (i+1) (a+1) _ fun j hj=>h j (by omega)]
theorem uX {b c:List Int}:∀(n i:Nat) (mem:List Int),(∀j,j<pkE b n i->atM c j=atM b j)->gY c n i mem=gY b n i mem
 | 0,i,mem,h=>rfl
 | n+1,i,mem,h=>by
  have h1:=BL b n (i+3+(atM b (i+2)).toNat);rw [pkE] at h;have e2:=h (i+2) (by omega);rw [gY,gY,e2,oQ,oQ,h i (by omega),h (i+1) (by omega),yW _ _ _ _ fun j hj=>h j (by omega)];exact uX n _ _ h
def hdM (b:List Int):List Int:=(List.range (pkE b (atM b 87).toNat 88)).map (atM b)
theorem BN (b more:List Int) {j:Nat} (h:j<pkE b (atM b 87).toNat 88):atM (hdM b++more) j=atM b j:=by
 unfold hdM;rw [atM,List.getElem?_append_left (by simpa using h),List.getElem?_map,List.getElem?_range h];rfl
theorem nI {b c:List Int} {i:Nat} (h:∀j,j<i+8->atM c j=atM b j):cE c i=cE b i:=by
 unfold cE;congr 1;exact List.map_congr_left fun k hk=>h _ (by have:=List.mem_range.1 hk;omega)
theorem Dp (b more:List Int):pF (hdM b++more)=pF b:=by
 have h:=BL b (atM b 87).toNat 88;unfold pF;rw [BN b more (show 87<_ by omega),BN b more (show 3<_ by omega)];exact uX _ _ _ fun j hj=>BN b more hj
theorem AG (b more:List Int):aI (hdM b++more)=aI b∧(bq (hdM b++more)).length=(bq b).length:=by
 have h:=BL b (atM b 87).toNat 88;have e:∀j,j<88->atM (hdM b++more) j=atM b j:=fun j hj=>BN b more (by omega);constructor
 ·unfold aI jm;rw [Dp,e 4 (by omega),e 0 (by omega),e 1 (by omega),e 2 (by omega),nI (i:=7) fun j hj=>e j (by omega),nI (i:=23) fun j hj=>e j (by omega),nI (i:=15) fun j hj=>e j (by omega)];congr 2;exact List.map_congr_left fun k hk=>nI fun j hj=>e j (by have:=List.mem_range.1 hk;omega)
 ·simp only [bq,it,List.length_map,List.length_range];rw [e 5 (by omega),e 6 (by omega)]
theorem GV (zs:List Int):CovK (aI zs).k []:=by
 have h:∀n:Nat,∀e∈List.replicate n cZ,e.valid=true->∃g∈([]:List ay),zn g e:=fun n e he hv=>by
  rw [List.eq_of_mem_replicate he] at hv;cases hv
 exact ⟨h _,h _,h _⟩
def ML (n:Nat) (r:RunM):Prop:=r.h.mem.length=n
theorem se {n:Nat} {c:Prop} [Decidable c] {a b:RunM} (ha:c->ML n a) (hb:¬c->ML n b):ML n (if c then a else b):=by
 by_cases h:c
 ·rw [if_pos h];exact ha h
 ·rw [if_neg h];exact hb h
theorem gE (plain:Bool) (pick kind:Int):∀(ps:List bH) (r:RunM),(ag plain pick kind r ps).1.h.mem=r.h.mem
 | [],r=>rfl
 | p::ps,r=>by
  unfold ag;split
  ·exact gE plain pick kind ps _
  ·rfl
theorem sf (plain:Bool) (pick:Int) (r:RunM) (kind va w:Int):(aw plain pick r kind va w).1.h.mem=r.h.mem:=by
 unfold aw;split
 ·split
  ·exact gE plain pick kind _ r
  ·exact gE plain pick kind _ r
 ·exact gE plain pick kind _ r
theorem Ee {n:Nat} (plain:Bool) (pick:Int) {r:RunM} (kind va w:Int) (h:ML n r):ML n (aw plain pick r kind va w).1:=by
 unfold ML;rw [sf];exact h
theorem Cr {n:Nat} (plain:Bool) {pick ea w:Int} {r:RunM} (hp:0<=pick∧pick<=255) (hv:inU ea) (hw:1<=w∧w<=8) (hr:ROk r) (h:ML n r) (hc:(aw plain pick r 2 ea w).1.cause=0) (x:Int) (m:Nat):ML n (dg (aw plain pick r 2 ea w) (cT x m)):=by
 have k:=iC plain (kind:=2) hp ⟨by omega,by omega⟩ hv hw hr;have i:=kE (plain:=plain) (pick:=pick) (r:=r) (kind:=2) (va:=ea) (w:=w) hc;have:=(Aj (aw plain pick r 2 ea w).2 (aw plain pick r 2 ea w).1.h.mem (cT x m) k.1.h.mem (jX m x) i k.2).1;show (jd (aw plain pick r 2 ea w).1.h.mem (aw plain pick r 2 ea w).2 (cT x m)).length=n;rw [this,sf];exact h
theorem IX (h:HartM) (b s:Int):inU (eaM h b s):=by
 unfold eaM inU;omega
theorem Ik {n:Nat} {r:RunM} (h:ML n r) (a x:Int):ML n (cz r a x):=h
theorem Ge {n:Nat} {r:RunM} (h:ML n r) (a x:Int):ML n (bS r a x):=h
theorem Gf {n:Nat} {r:RunM} {h':HartM} (h:ML n r) (e:h'.mem=r.h.mem):ML n (bM r h'):=by
 unfold ML;show h'.mem.length=n;rw [e];exact h
theorem IY {n:Nat} (plain:Bool) {pick pc op a b c s word:Int} {r:RunM} (hp:0<=pick∧pick<=255) (hc:0<=c) (hr:ROk r) (h:ML n r):ML n (doM plain pick r pc op a b c s word):=by
 unfold doM iB fJ mg;repeat' (with_reducible refine se (fun _=>?_) (fun _=>?_))
 all_goals try (with_reducible refine Ik ?_ _ _)
 all_goals first
  | with_reducible exact h
  | with_reducible exact Ge h _ _
  | with_reducible exact Ee plain pick _ _ _ h
  | ((with_reducible refine Cr plain hp (IX _ _ _) ?_ hr h (by assumption) _ _);first | exact li c hc | exact ⟨by omega,by omega⟩)
  | ((with_reducible refine Gf h ?_);rfl)
  | (unfold ML;split <;> exact h)
theorem Gg (plain:Bool) {pick:Int} {h:HartM} (hp:0<=pick∧pick<=255) (hh:HOk h):(bT plain pick h).h.mem.length=h.mem.length:=by
 have h1:ML h.mem.length (bI plain pick h):=rfl;have k1:=kH plain pick hh;show ML h.mem.length (bT plain pick h);unfold bT lQ;refine se (fun _=>?_) (fun _=>rfl);unfold dn;generalize bI plain pick h=r at h1 k1 |-;refine se (fun _=>se (fun _=>se (fun _=>?_) (fun _=>h1)) (fun _=>h1)) (fun _=>h1);unfold hH fj;exact IY plain hp (by omega) (qC (jD k1 plain hp (by omega) k1.h.pc)) h1
theorem zZ (plain:Bool):∀(ps:List Int) (h:HartM),HOk h->(∀y∈ps,0<=y∧y<=255)->(eM plain ps h).2.mem.length=h.mem.length∧(eM plain ps h).1.length=ps.length∧HOk (eM plain ps h).2
 | [],h,hk,_=>⟨rfl,rfl,hk⟩
 | y::ps,h,hk,hp=>by
  have h1:=hp y (by simp);have:=zZ plain ps (bT plain y h).h (mt plain h1 hk).h (fun z hz=>hp z (by simp [hz]));rw [eM];exact ⟨this.1.trans (Gg plain h1 hk),by simp [this.2.1],this.2.2⟩
end Go.Proofs.YtkenjknmfhoppaaGreat
