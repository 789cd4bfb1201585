import Derived.Test.YthdgiakgepmabaaGreatPk21
namespace Go.Proofs.YthdgiakgepmabaaGreat
open Go.RowKit
set_option linter.unusedVariables false
set_option maxHeartbeats 6400000
set_option maxRecDepth 20000
def Like (g h:HartM):Prop:=h.mem=g.mem∧h.mode=g.mode∧h.sum=g.sum∧h.mxr=g.mxr∧h.satp=g.satp
theorem Like.refl (h:HartM):Like h h:=⟨rfl,rfl,rfl,rfl,rfl⟩
theorem pr {g h:HartM} (hl:Like g h) (kind va:Int):∀(rs:List aD) (gs:List aw),fC h kind va rs gs=fC g kind va rs gs
 | [],gs=>rfl
 | r::rs,gs=>by
  rw [fC,fC,hl.2.1,hl.2.2.1,hl.2.2.2.1,hl.2.2.2.2];exact pr hl kind va rs _
theorem tF {g h:HartM} (hl:Like g h) (gs:List aw) (l:Int × Int):cN gs h l=cN gs g l:=by
 unfold cN jT;rw [pr hl,hl.1,hl.2.1,hl.2.2.2.2]
theorem gD (h:HartM):∀(a b:List (Int × Int)) (gs:List aw),(aI h (a++b) gs).1=true->(aI h a gs).1=true∧aI h (a++b) gs=aI h b (aI h a gs).2
 | [],b,gs,hj=>⟨rfl,rfl⟩
 | l::a,b,gs,hj=>by
  simp only [List.cons_append,aI] at hj |-;split at hj
  ·rename_i h1;rw [if_pos h1,if_pos h1];exact gD h a b _ hj
  ·cases hj
def Jd (g:HartM) (gs:List aw) (r:RunM):Prop:=(aI g r.looks gs).1=true
theorem Jd.prefix {g:HartM} {gs:List aw} {r r':RunM} (h:Jd g gs r') (hp:r.looks<+:r'.looks):Jd g gs r:=by
 obtain ⟨t,ht⟩:=hp;unfold Jd at h;rw [<-ht] at h;exact (gD g r.looks t gs h).1
structure Sim (g:HartM) (gs:List aw) (rc rp:RunM):Prop where
 eq:rc=bG rp (withK rp.h rc.h.k)
 good:bj rc.h.k=true
 cov:CovK rc.h.k (cO rp (aI g rp.looks gs).2)
theorem jg {r:RunM} {gs:List aw} (h:r.fenced=false):cO r gs=gs:=by
 unfold cO;rw [h];rfl
theorem rH {g:HartM} {gs:List aw} {rc rp:RunM} {kind va pick pick':Int} (hs:Sim g gs rc rp) (hl:Like g rp.h) (hf:rp.fenced=false) (hm:0<=rp.h.mode∧rp.h.mode<=2) (hk:0<=kind∧kind<=2) (hp:0<=pick∧pick<=255) (hj:Jd g gs (bb true pick' rp kind va)):
 Sim g gs (bb false pick rc kind va) (bb true pick' rp kind va)∧(aM false pick rc.h kind va).1=(aM true pick' rp.h kind va).1:=by
 obtain ⟨he,hg,hc⟩:=hs;generalize rc.h.k=k at he hg hc;subst he;unfold Jd at hj;obtain ⟨j1,j2⟩:=gD g rp.looks [(kind,va)] gs hj;have j3:(aI g (rp.looks++[(kind,va)]) gs).1=true:=hj;rw [j2] at j3;rw [jg hf] at hc;have j4:(cN (aI g rp.looks gs).2 g (kind,va)).1=true:=by
  rw [aI] at j3;split at j3
  ·assumption
  ·cases j3
 have j5:(aI g (rp.looks++[(kind,va)]) gs).2=(cN (aI g rp.looks gs).2 g (kind,va)).2:=by
  rw [j2,aI,if_pos j4];rfl
 rw [<-tF hl] at j4 j5;obtain ⟨t1,t2⟩:=uf rp.h k _ kind va pick hg hc hk hm hp j4;have tg:=oy rp.h.mem rp.h.mode rp.h.sum rp.h.mxr rp.h.satp k kind va pick hg hk hm hp;have e1:aM false pick (withK rp.h k) kind va=bc rp.h.mem rp.h.mode rp.h.sum rp.h.mxr rp.h.satp k kind va pick:=rfl;have e2:aM true pick' rp.h kind va=(fB rp.h.mem rp.h.mode rp.h.sum rp.h.mxr rp.h.satp kind va,rp.h.k):=rfl;refine ⟨⟨rfl,tg,?_⟩,?_⟩
 ·rw [jg (show (bb true pick' rp kind va).fenced=false from hf)];show CovK (bc rp.h.mem rp.h.mode rp.h.sum rp.h.mxr rp.h.satp k kind va pick).2 (aI g (rp.looks++[(kind,va)]) gs).2;rw [j5];exact t2
 ·show (aM false pick (withK rp.h k) kind va).1=_;rw [e1,e2];exact t1
theorem lJ (plain:Bool) (pick kind va:Int) (r:RunM):r.looks<+:(bb plain pick r kind va).looks:=⟨[(kind,va)],rfl⟩
theorem dF (plain:Bool) (pick kind:Int):∀(ps:List be) (r:RunM),r.looks<+:(ab plain pick kind r ps).1.looks
 | [],r=>List.prefix_rfl
 | p::ps,r=>by
  rw [ab];split
  ·exact (lJ plain pick kind p.1 r).trans (dF plain pick kind ps _)
  ·exact lJ plain pick kind p.1 r
theorem fq {g:HartM} {gs:List aw} {rc rp:RunM} (hs:Sim g gs rc rp) (c t:Int):Sim g gs (cf rc c t) (cf rp c t):=by
 obtain ⟨he,hg,hc⟩:=hs;generalize rc.h.k=k at he hg hc;subst he;exact ⟨rfl,hg,hc⟩
theorem iK {g:HartM} {gs:List aw} {kind pick pick':Int} (hk:0<=kind∧kind<=2) (hp:0<=pick∧pick<=255):∀(ps:List be) (rc rp:RunM),Sim g gs rc rp->Like g rp.h->rp.fenced=false->(0<=rp.h.mode∧rp.h.mode<=2)->
 Jd g gs (ab true pick' kind rp ps).1->Sim g gs (ab false pick kind rc ps).1 (ab true pick' kind rp ps).1∧(ab false pick kind rc ps).2=(ab true pick' kind rp ps).2
 | [],rc,rp,hs,hl,hf,hm,hj=>⟨hs,rfl⟩
 | p::ps,rc,rp,hs,hl,hf,hm,hj=>by
  have hj0:Jd g gs (bb true pick' rp kind p.1):=by
   refine hj.prefix ?_;rw [ab];split
   ·exact dF true pick' kind ps _
   ·exact List.prefix_rfl
  obtain ⟨s1,s2⟩:=rH (pick:=pick) hs hl hf hm hk hp hj0;rw [ab,ab,s2];rw [ab] at hj;by_cases h0:(aM true pick' rp.h kind p.1).1.1=0
  ·rw [if_pos h0,if_pos h0];rw [if_pos h0] at hj;obtain ⟨q1,q2⟩:=iK hk hp ps _ _ s1 hl hf hm hj;exact ⟨q1,by rw [q2]⟩
  ·rw [if_neg h0,if_neg h0];exact ⟨fq s1 _ _,rfl⟩
theorem ib (plain:Bool) (pick kind va w:Int) (r:RunM):r.looks<+:(az plain pick r kind va w).1.looks:=by
 unfold az;split
 ·split <;> exact dF plain pick kind _ r
 ·exact dF plain pick kind _ r
theorem Sim.cause {g:HartM} {gs:List aw} {rc rp:RunM} (h:Sim g gs rc rp):rc.cause=rp.cause:=by rw [h.eq];rfl
theorem Sim.tval {g:HartM} {gs:List aw} {rc rp:RunM} (h:Sim g gs rc rp):rc.tval=rp.tval:=by rw [h.eq];rfl
theorem Sim.mem {g:HartM} {gs:List aw} {rc rp:RunM} (h:Sim g gs rc rp):rc.h.mem=rp.h.mem:=by rw [h.eq];rfl
theorem Sim.regs {g:HartM} {gs:List aw} {rc rp:RunM} (h:Sim g gs rc rp):rc.h.regs=rp.h.regs:=by rw [h.eq];rfl
theorem kQ {g:HartM} {gs:List aw} {kind pick pick' va w:Int} {rc rp:RunM} (hk:0<=kind∧kind<=2) (hp:0<=pick∧pick<=255) (hs:Sim g gs rc rp) (hl:Like g rp.h) (hf:rp.fenced=false) (hm:0<=rp.h.mode∧rp.h.mode<=2)
 (hj:Jd g gs (az true pick' rp kind va w).1):Sim g gs (az false pick rc kind va w).1 (az true pick' rp kind va w).1∧(az false pick rc kind va w).2=(az true pick' rp kind va w).2:=by
 have hj0:Jd g gs (ab true pick' kind rp (bo va w)).1:=by
  refine hj.prefix ?_;unfold az;split
  ·split <;> exact List.prefix_rfl
  ·exact List.prefix_rfl
 obtain ⟨s1,s2⟩:=iK (pick:=pick) hk hp _ _ _ hs hl hf hm hj0;unfold az;rw [s2,s1.cause,s1.mem];split
 ·split
  ·exact ⟨s1,s2⟩
  ·exact ⟨fq s1 _ _,rfl⟩
 ·exact ⟨s1,s2⟩
theorem er {g:HartM} {gs:List aw} {rc rp:RunM} (hs:Sim g gs rc rp) (hc hp:HartM) (h:hc=withK hp rc.h.k):Sim g gs (bG rc hc) (bG rp hp):=by
 obtain ⟨he,hg,hv⟩:=hs;generalize rc.h.k=k at he hg hv h;subst he;subst h;exact ⟨rfl,hg,hv⟩
theorem eV {g:HartM} {gs:List aw} {rc rp:RunM} (hs:Sim g gs rc rp) (a x:Int):Sim g gs (cE rc a x) (cE rp a x):=by
 unfold cE;refine er hs _ _ ?_;rw [hs.regs];have:=hs.eq;generalize rc.h.k=k at this |-;subst this;rfl
theorem yV {g:HartM} {gs:List aw} {rc rp:RunM} (hs:Sim g gs rc rp) (m:List Int):Sim g gs (bG rc (cL rc.h m)) (bG rp (cL rp.h m)):=by
 refine er hs _ _ ?_;have:=hs.eq;generalize rc.h.k=k at this |-;subst this;rfl
theorem rI (plain:Bool) (pick ea w a:Int) (r:RunM):r.looks<+:(eS plain pick r ea w a).looks:=by
 unfold eS;split <;> exact ib plain pick _ _ _ r
theorem qk (plain:Bool) (pick ea w x:Int) (r:RunM):r.looks<+:(dE plain pick r ea w x).looks:=by
 unfold dE;split <;> exact ib plain pick _ _ _ r
theorem tG (plain:Bool) (pick ea a x:Int) (r:RunM):r.looks<+:(iH plain pick r ea a x).looks:=by
 unfold iH;split <;> exact ib plain pick _ _ _ r
theorem vx (plain:Bool) (pick:Int) (r:RunM) (pc op a b c s word:Int):r.looks<+:(doM plain pick r pc op a b c s word).looks:=by
 unfold doM;by_cases hi:cz op c r.h.mode=true
 ·rw [if_pos hi];exact List.prefix_rfl
 rw [if_neg hi];by_cases o1:op=1
 ·rw [if_pos o1];exact List.prefix_rfl
 rw [if_neg o1];by_cases o2:op=2
 ·rw [if_pos o2];exact List.prefix_rfl
 rw [if_neg o2];by_cases o3:op=3
 ·rw [if_pos o3];exact List.prefix_rfl
 rw [if_neg o3];by_cases o4:op=4
 ·rw [if_pos o4];exact List.prefix_rfl
 rw [if_neg o4];by_cases o5:op=5
 ·rw [if_pos o5];exact rI plain pick _ _ _ r
 rw [if_neg o5];by_cases o6:op=6
 ·rw [if_pos o6];exact qk plain pick _ _ _ r
 rw [if_neg o6];by_cases o7:op=7
 ·rw [if_pos o7];exact tG plain pick _ _ _ r
 rw [if_neg o7];by_cases o8:op=8
 ·rw [if_pos o8];split <;> exact List.prefix_rfl
 rw [if_neg o8];by_cases o9:op=9
 ·rw [if_pos o9];split <;> exact List.prefix_rfl
 rw [if_neg o9];by_cases o10:op=10
 ·rw [if_pos o10];exact List.prefix_rfl
 rw [if_neg o10];by_cases o11:op=11
 ·rw [if_pos o11];exact List.prefix_rfl
 rw [if_neg o11];by_cases o12:op=12
 ·rw [if_pos o12];exact List.prefix_rfl
 rw [if_neg o12];by_cases o13:op=13
 ·rw [if_pos o13];exact List.prefix_rfl
 rw [if_neg o13];by_cases o14:op=14
 ·rw [if_pos o14];exact List.prefix_rfl
 rw [if_neg o14];exact List.prefix_rfl
theorem xq {g:HartM} {gs:List aw} {rc rp:RunM} {pick pick' ea w a:Int} (hp:0<=pick∧pick<=255) (hs:Sim g gs rc rp) (hl:Like g rp.h) (hf:rp.fenced=false) (hm:0<=rp.h.mode∧rp.h.mode<=2)
 (hj:Jd g gs (eS true pick' rp ea w a)):Sim g gs (eS false pick rc ea w a) (eS true pick' rp ea w a):=by
 unfold eS at hj |-;have hj0:Jd g gs (az true pick' rp 1 ea w).1:=by
  refine hj.prefix ?_;split <;> exact List.prefix_rfl
 obtain ⟨s1,s2⟩:=kQ (pick:=pick) (by omega) hp hs hl hf hm hj0;rw [s2,s1.cause,s1.mem];split
 ·exact eV s1 _ _
 ·exact s1
theorem mW {g:HartM} {gs:List aw} {rc rp:RunM} (hs:Sim g gs rc rp) (ps:List be) (b:List Int):Sim g gs (fm (rc,ps) b) (fm (rp,ps) b):=by
 unfold fm;simp only;rw [hs.mem];exact yV hs _
theorem vy {g:HartM} {gs:List aw} {rc rp:RunM} {pick pick' ea w x:Int} (hp:0<=pick∧pick<=255) (hs:Sim g gs rc rp) (hl:Like g rp.h) (hf:rp.fenced=false) (hm:0<=rp.h.mode∧rp.h.mode<=2)
 (hj:Jd g gs (dE true pick' rp ea w x)):Sim g gs (dE false pick rc ea w x) (dE true pick' rp ea w x):=by
 unfold dE at hj |-;have hj0:Jd g gs (az true pick' rp 2 ea w).1:=by
  refine hj.prefix ?_;split <;> exact List.prefix_rfl
 obtain ⟨s1,s2⟩:=kQ (pick:=pick) (by omega) hp hs hl hf hm hj0;have e1:az false pick rc 2 ea w=((az false pick rc 2 ea w).1,(az true pick' rp 2 ea w).2):=by rw [<-s2]
 rw [s1.cause];split
 ·rw [e1];exact mW s1 _ _
 ·exact s1
theorem yW {g:HartM} {gs:List aw} {rc rp:RunM} {pick pick' ea a x:Int} (hp:0<=pick∧pick<=255) (hs:Sim g gs rc rp) (hl:Like g rp.h) (hf:rp.fenced=false) (hm:0<=rp.h.mode∧rp.h.mode<=2)
 (hj:Jd g gs (iH true pick' rp ea a x)):Sim g gs (iH false pick rc ea a x) (iH true pick' rp ea a x):=by
 unfold iH at hj |-;have hj0:Jd g gs (az true pick' rp 2 ea 8).1:=by
  refine hj.prefix ?_;split <;> exact List.prefix_rfl
 obtain ⟨s1,s2⟩:=kQ (pick:=pick) (by omega) hp hs hl hf hm hj0;have e1:az false pick rc 2 ea 8=((az false pick rc 2 ea 8).1,(az true pick' rp 2 ea 8).2):=by rw [<-s2]
 rw [s1.cause];split
 ·rw [s2,s1.mem,e1];exact eV (mW s1 _ _) _ _
 ·exact s1
theorem Aj {g:HartM} {gs:List aw} {rc rp:RunM} {pick pick' pc op a b c s word:Int} (hp:0<=pick∧pick<=255) (hs:Sim g gs rc rp) (hl:Like g rp.h) (hf:rp.fenced=false) (hm:0<=rp.h.mode∧rp.h.mode<=2)
 (hj:Jd g gs (doM true pick' rp pc op a b c s word)):Sim g gs (doM false pick rc pc op a b c s word) (doM true pick' rp pc op a b c s word):=by
 have he:=hs.eq;have e1:rc.h.mode=rp.h.mode:=by rw [he];rfl
 have e2:∀x,ga rc.h x=ga rp.h x:=fun x=>by rw [he];rfl
 have e3:∀x y,eaM rc.h x y=eaM rp.h x y:=fun x y=>by rw [he];rfl
 unfold doM at hj |-;simp only [e1,e2,e3];by_cases hi:cz op c rp.h.mode=true
 ·rw [if_pos hi,if_pos hi];exact fq hs _ _
 rw [if_neg hi,if_neg hi];rw [if_neg hi] at hj;by_cases o1:op=1
 ·rw [if_pos o1,if_pos o1];exact eV hs _ _
 rw [if_neg o1,if_neg o1];rw [if_neg o1] at hj;by_cases o2:op=2
 ·rw [if_pos o2,if_pos o2];exact eV hs _ _
 rw [if_neg o2,if_neg o2];rw [if_neg o2] at hj;by_cases o3:op=3
 ·rw [if_pos o3,if_pos o3];exact eV hs _ _
 rw [if_neg o3,if_neg o3];rw [if_neg o3] at hj;by_cases o4:op=4
 ·rw [if_pos o4,if_pos o4];exact eV hs _ _
 rw [if_neg o4,if_neg o4];rw [if_neg o4] at hj;by_cases o5:op=5
 ·rw [if_pos o5,if_pos o5];rw [if_pos o5] at hj;exact xq hp hs hl hf hm hj
 rw [if_neg o5,if_neg o5];rw [if_neg o5] at hj;by_cases o6:op=6
 ·rw [if_pos o6,if_pos o6];rw [if_pos o6] at hj;exact vy hp hs hl hf hm hj
 rw [if_neg o6,if_neg o6];rw [if_neg o6] at hj;by_cases o7:op=7
 ·rw [if_pos o7,if_pos o7];rw [if_pos o7] at hj;exact yW hp hs hl hf hm hj
 rw [if_neg o7,if_neg o7];rw [if_neg o7] at hj;have hhe:rc.h=withK rp.h rc.h.k:=by
  have:=congrArg RunM.h he;exact this
 by_cases o8:op=8
 ·rw [if_pos o8,if_pos o8];split
  ·exact hs
  ·exact er hs _ _ (by rw [hhe];rfl)
 rw [if_neg o8,if_neg o8];rw [if_neg o8] at hj;by_cases o9:op=9
 ·rw [if_pos o9,if_pos o9];split
  ·exact er hs _ _ (by rw [hhe];rfl)
  ·exact hs
 rw [if_neg o9,if_neg o9];rw [if_neg o9] at hj;by_cases o10:op=10
 ·rw [if_pos o10,if_pos o10];exact er hs _ _ (by rw [hhe];rfl)
 rw [if_neg o10,if_neg o10];rw [if_neg o10] at hj;by_cases o11:op=11
 ·rw [if_pos o11,if_pos o11];have ef:iy rc.h a b=iy rp.h a b:=by unfold iy;rw [e2,e2]
  rw [ef];have hg:=hs.good;have hc:=hs.cov;rw [jg hf] at hc;generalize rc.h.k=k at he hg hc;subst he;refine ⟨rfl,lR k _ hg,?_⟩;exact hc.flush hg
 rw [if_neg o11,if_neg o11];rw [if_neg o11] at hj;by_cases o12:op=12
 ·rw [if_pos o12,if_pos o12];exact er hs _ _ (by rw [hhe];rfl)
 rw [if_neg o12,if_neg o12];by_cases o13:op=13
 ·rw [if_pos o13,if_pos o13];exact er hs _ _ (by rw [hhe];rfl)
 rw [if_neg o13,if_neg o13];by_cases o14:op=14
 ·rw [if_pos o14,if_pos o14];exact fq hs _ _
 rw [if_neg o14,if_neg o14];exact fq hs _ _
theorem tH (plain:Bool) (pick:Int) (r:RunM) (x:Int):r.looks<+:(gc plain pick r x).looks:=by
 unfold gc kC;have:=vx plain pick (bG r (dy r.h ((r.h.pc+4)%18446744073709551616))) r.h.pc (x%256) (x/256%256%8) (x/256%256/8%8) (x/65536%256%8) (x/16777216) x;generalize doM plain pick (bG r (dy r.h ((r.h.pc+4)%18446744073709551616))) r.h.pc (x%256) (x/256%256%8) (x/256%256/8%8) (x/65536%256%8) (x/16777216) x=y at this |-;exact this
theorem yX {g:HartM} {gs:List aw} {rc rp:RunM} {pick pick' x:Int} (hp:0<=pick∧pick<=255) (hs:Sim g gs rc rp) (hl:Like g rp.h) (hf:rp.fenced=false) (hm:0<=rp.h.mode∧rp.h.mode<=2)
 (hj:Jd g gs (gc true pick' rp x)):Sim g gs (gc false pick rc x) (gc true pick' rp x):=by
 have hhe:rc.h=withK rp.h rc.h.k:=congrArg RunM.h hs.eq;have epc:rc.h.pc=rp.h.pc:=by rw [hhe];rfl
 have s3:Sim g gs (bG rc (dy rc.h ((rc.h.pc+4)%18446744073709551616))) (bG rp (dy rp.h ((rp.h.pc+4)%18446744073709551616))):=by
  refine er hs _ _ ?_;rw [epc];generalize rc.h.k=k at hhe |-;rw [hhe];rfl
 unfold gc kC at hj |-;rw [epc] at s3 |-;exact Aj hp s3 hl hf hm hj
theorem xr {g:HartM} {gs:List aw} {rc rp:RunM} {pick pick':Int} (hp:0<=pick∧pick<=255) (hs:Sim g gs rc rp) (hl:Like g rp.h) (hf:rp.fenced=false) (hm:0<=rp.h.mode∧rp.h.mode<=2)
 (hj:Jd g gs (bU true pick' rp)):Sim g gs (bU false pick rc) (bU true pick' rp):=by
 have he:=hs.eq;have hhe:rc.h=withK rp.h rc.h.k:=congrArg RunM.h he;have epc:rc.h.pc=rp.h.pc:=by rw [hhe];rfl
 unfold bU at hj |-;simp only [epc,hs.mem];by_cases h4:¬rp.h.pc%4=0
 ·rw [if_neg h4,if_neg h4];exact fq hs _ _
 have h4:=Decidable.not_not.1 h4;rw [if_pos h4,if_pos h4];rw [if_pos h4] at hj;have hj0:Jd g gs (bb true pick' rp 0 rp.h.pc):=by
  refine hj.prefix ?_;generalize hz:bb true pick' rp 0 rp.h.pc=z;split
  ·split
   ·exact tH true pick' z _
   ·exact List.prefix_rfl
  ·exact List.prefix_rfl
 obtain ⟨s1,s2⟩:=rH (pick:=pick) hs hl hf hm (by omega) hp hj0;rw [s2];by_cases h0:¬(aM true pick' rp.h 0 rp.h.pc).1.1=0
 ·rw [if_neg h0,if_neg h0];exact fq s1 _ _
 have h0:=Decidable.not_not.1 h0;rw [if_pos h0,if_pos h0];rw [if_pos h0] at hj;have ew:fF false pick rc.h=fF true pick' rp.h:=by unfold fF;rw [hs.mem,epc,s2]
 rw [ew];split
 ·rename_i hg;rw [if_pos hg] at hj;exact yX hp s1 hl hf hm hj
 ·exact fq s1 _ _
theorem xt {h:HartM} {k:KM} {gs:List aw} {pick pick':Int} (hp:0<=pick∧pick<=255) (hk:bj k=true) (hc:CovK k gs) (hm:0<=h.mode∧h.mode<=2) (hj:(aI h (aW true pick' h).looks gs).1=true):
 ∃k',aW false pick (withK h k)=bG (aW true pick' h) (withK (aW true pick' h).h k')∧bj k'=true∧CovK k' (cO (aW true pick' h) (aI h (aW true pick' h).looks gs).2):=by
 have s0:Sim h gs (bt false pick (withK h k)) (bt true pick' h):=by
  refine ⟨?_,nY false pick k hk,?_⟩
  ·unfold bt;have:dz true pick' h.k=h.k:=by unfold dz;rw [if_neg (by simp)]
   rw [this];rfl
  ·rw [jg rfl];exact hc.evict
 have hl:Like h (bt true pick' h).h:=⟨rfl,rfl,rfl,rfl,rfl⟩;have e:(aW true pick' h).looks=(bU true pick' (bt true pick' h)).looks:=by
  unfold aW jz;split <;> rfl
 have hj1:Jd h gs (bU true pick' (bt true pick' h)):=by
  unfold Jd;rw [<-e];exact hj
 have s1:=xr (pick:=pick) hp s0 hl rfl hm hj1;have ef:cO (aW true pick' h) (aI h (aW true pick' h).looks gs).2=cO (bU true pick' (bt true pick' h)) (aI h (bU true pick' (bt true pick' h)).looks gs).2:=by
  unfold aW jz;split <;> rfl
 rw [ef];refine ⟨(bU false pick (bt false pick (withK h k))).h.k,?_,s1.good,s1.cov⟩;unfold aW jz;rw [s1.cause];split
 ·exact s1.eq
 ·unfold gg;rw [s1.cause,s1.tval];have:=s1.eq;generalize (bU false pick (bt false pick (withK h k))).h.k=k' at this;rw [this];rfl
def dx (h:HartM):Prop:=(0<=h.mode∧h.mode<=2)∧(0<=h.emode∧h.emode<=2)
theorem xu {r:RunM} {plain:Bool} {pick pc op a b c s word:Int} (hc:0<=c) (hm:dx r.h):dx (doM plain pick r pc op a b c s word).h:=by
 have tp:∀(kind:Int) (ps:List be) (r:RunM),dx r.h->dx (ab plain pick kind r ps).1.h:=by
  intro kind ps
  induction ps with
  | nil=>intro r h;exact h
  | cons p ps ih=>
   intro r h;rw [ab];split
   ·exact ih _ h
   ·exact h
 have pp:∀kind va w,dx (az plain pick r kind va w).1.h:=by
  intro kind va w;unfold az;split
  ·split <;> exact tp kind _ r hm
  ·exact tp kind _ r hm
 unfold doM;by_cases hi:cz op c r.h.mode=true
 ·rw [if_pos hi];exact hm
 rw [if_neg hi];by_cases o1:op=1
 ·rw [if_pos o1];exact hm
 rw [if_neg o1];by_cases o2:op=2
 ·rw [if_pos o2];exact hm
 rw [if_neg o2];by_cases o3:op=3
 ·rw [if_pos o3];exact hm
 rw [if_neg o3];by_cases o4:op=4
 ·rw [if_pos o4];exact hm
 rw [if_neg o4];by_cases o5:op=5
 ·rw [if_pos o5];unfold eS;split <;> exact pp _ _ _
 rw [if_neg o5];by_cases o6:op=6
 ·rw [if_pos o6];unfold dE;split <;> exact pp _ _ _
 rw [if_neg o6];by_cases o7:op=7
 ·rw [if_pos o7];unfold iH;split <;> exact pp _ _ _
 rw [if_neg o7];by_cases o8:op=8
 ·rw [if_pos o8];split <;> exact hm
 rw [if_neg o8];by_cases o9:op=9
 ·rw [if_pos o9];split <;> exact hm
 rw [if_neg o9];by_cases o10:op=10
 ·rw [if_pos o10];exact hm
 rw [if_neg o10];by_cases o11:op=11
 ·rw [if_pos o11];cases plain <;> exact hm
 rw [if_neg o11];by_cases o12:op=12
 ·rw [if_pos o12];exact ⟨hm.2,hm.2⟩
 rw [if_neg o12];by_cases o13:op=13
 ·rw [if_pos o13];refine ⟨hm.1,hc,?_⟩;show c<=2;simp only [cz,Bool.or_eq_true,decide_eq_true_eq,not_or] at hi;omega
 rw [if_neg o13];by_cases o14:op=14
 ·rw [if_pos o14];exact hm
 rw [if_neg o14];exact hm
theorem vz {r:RunM} {plain:Bool} {pick x:Int} (hm:dx r.h):dx (gc plain pick r x).h:=by
 unfold gc kC;have hm':dx (bG r (dy r.h ((r.h.pc+4)%18446744073709551616))).h:=hm;generalize bG r (dy r.h ((r.h.pc+4)%18446744073709551616))=y at hm' |-;exact xu (by omega) hm'
theorem tI {r:RunM} {plain:Bool} {pick:Int} (hm:dx r.h):dx (bU plain pick r).h:=by
 have hm':dx (bb plain pick r 0 r.h.pc).h:=hm;unfold bU;generalize bb plain pick r 0 r.h.pc=z at hm' |-;split
 ·split
  ·split
   ·exact vz hm'
   ·exact hm'
  ·exact hm'
 ·exact hm
theorem tJ {h:HartM} {plain:Bool} {pick:Int} (hm:dx h):dx (aW plain pick h).h:=by
 have hb:dx (bU plain pick (bt plain pick h)).h:=tI hm;unfold aW jz;generalize bU plain pick (bt plain pick h)=z at hb |-;split
 ·exact hb
 ·exact ⟨⟨by simp [bG,gg],by simp [bG,gg]⟩,hm.1⟩
theorem xx (ps:List Int):∀(qs:List Int) (h:HartM) (k:KM) (gs:List aw) (i:Nat),qs.length=ps.length->(∀q∈qs,0<=q∧q<=255)->bj k=true->CovK k gs->dx h->(go ps h gs i).1=true->
 (cY false qs (withK h k)).1=(cY true ps h).1∧∃k',(cY false qs (withK h k)).2=withK (cY true ps h).2 k':=by
 induction ps with
 | nil=>
  intro qs h k gs i hl _ _ _ _ _;rw [List.length_nil,List.length_eq_zero_iff] at hl;subst hl;exact ⟨rfl,k,rfl⟩
 | cons p ps ih=>
  intro qs h k gs i hl hq hk hc hm hd;cases qs with
  | nil=>simp at hl
  | cons q qs=>
   have hs:=@xt h k gs q p (hq q (List.mem_cons_self ..)) hk hc hm.1;have hmm:=@tJ h true p hm;rw [go] at hd;rw [cY,cY];generalize aW true p h=sp at hs hmm hd |-;generalize aW false q (withK h k)=sc at hs |-;split at hd
   ·rename_i hj;obtain ⟨k',rfl,e2,e3⟩:=hs hj;obtain ⟨r1,r2⟩:=ih qs sp.h k' _ (i+1) (by simpa using hl) (fun x hx=>hq x (List.mem_cons_of_mem _ hx)) e2 e3 hmm hd;have e4:(bG sp (withK sp.h k')).h=withK sp.h k':=rfl;rw [e4,r1];exact ⟨rfl,r2⟩
   ·cases hd
set_option maxRecDepth 100000
abbrev sA (x a:Int):List Int:=[0,128,4432,11463,0,9223389629040820225,x,a]
theorem zq (a b:Nat):go (bh (eC a b 0 [])) (aC (eC a b 0 [])) [] 0=(false,2):=by kernel_rfl
theorem zr (a b:Nat):(cY false (bh (eC a b 0 [0,0,0])) (aC (eC a b 0 [0,0,0]))).2.regs=sA a a:=by kernel_rfl
theorem zt (a b:Nat):(cY false (bh (eC a b 0 [0,0,128])) (aC (eC a b 0 [0,0,128]))).2.regs=sA b a:=by kernel_rfl
theorem Bm (zs:List Int):CovK (aC zs).k []:=by
 have h:∀n:Nat,∀e∈List.replicate n bC,e.valid=true->∃g∈([]:List aw),sL g e:=fun n e he hv=>by
  rw [List.eq_of_mem_replicate he] at hv;cases hv
 exact ⟨h _,h _,h _⟩
structure WitF (a b:Nat) (z ps:List Int):Prop where
 pick:bh z=ps
 dis:go [0,0,0,0] (aC z) [] 0=(true,4)
 regs:(cY true [0,0,0,0] (aC z)).2.regs=sA b a
 good:bj (aC z).k=true
 m1:(aC z).mode=1
 m2:(aC z).emode=1
theorem Bn (a b:Nat) (p q r s:Int):WitF a b (eC a b 1 [p,q,r,s]) [p,q,r,s]:=⟨by kernel_rfl,by kernel_rfl,by kernel_rfl,by kernel_rfl,by kernel_rfl,by kernel_rfl⟩
theorem Bo (a b:Nat) (p q r s:Int):WitF a b (eC a b 2 [p,q,r,s]) [p,q,r,s]:=⟨by kernel_rfl,by kernel_rfl,by kernel_rfl,by kernel_rfl,by kernel_rfl,by kernel_rfl⟩
theorem Bp (a b:Nat) (p q r s:Int):WitF a b (eC a b 3 [p,q,r,s]) [p,q,r,s]:=⟨by kernel_rfl,by kernel_rfl,by kernel_rfl,by kernel_rfl,by kernel_rfl,by kernel_rfl⟩
theorem Bq (a b:Nat) (p q r s:Int):WitF a b (eC a b 4 [p,q,r,s]) [p,q,r,s]:=⟨by kernel_rfl,by kernel_rfl,by kernel_rfl,by kernel_rfl,by kernel_rfl,by kernel_rfl⟩
theorem zu (a b:Nat) (how:Int) (ps:List Int) (hh:how=1∨how=2∨how=3∨how=4) (hl:ps.length=4):WitF a b (eC a b how ps) ps:=by
 rcases ps with _ | ⟨p,_ | ⟨q,_ | ⟨r,_ | ⟨s,_ | ⟨t,ps⟩⟩⟩⟩⟩ <;> simp at hl;rcases hh with rfl | rfl | rfl | rfl
 ·exact Bn a b p q r s
 ·exact Bo a b p q r s
 ·exact Bp a b p q r s
 ·exact Bq a b p q r s
theorem zv {a b:Nat} {z ps:List Int} (h:WitF a b z ps) (hl:ps.length=4) (hp:∀q∈ps,0<=q∧q<=255):go (bh z) (aC z) [] 0=(true,4)∧
 ∃evs hh k,cY true (bh z) (aC z)=(evs,hh)∧cY false (bh z) (aC z)=(evs,withK hh k)∧hh.regs=sA b a:=by
 have e:=h.pick;have hd:go (bh z) (aC z) [] 0=(true,4):=by rw [e,tf ps [0,0,0,0] _ _ _ hl];exact h.dis
 refine ⟨hd,?_⟩;obtain ⟨h1,k',h2⟩:=xx (bh z) (bh z) (aC z) (aC z).k [] 0 rfl (by rw [e];exact hp) h.good (Bm z) ⟨by rw [h.m1];decide,by rw [h.m2];decide⟩ (by rw [hd]);refine ⟨(cY true (bh z) (aC z)).1,(cY true (bh z) (aC z)).2,k',rfl,Prod.ext h1 h2,?_⟩;rw [e,te ps [0,0,0,0] _ hl];exact h.regs
end Go.Proofs.YthdgiakgepmabaaGreat
