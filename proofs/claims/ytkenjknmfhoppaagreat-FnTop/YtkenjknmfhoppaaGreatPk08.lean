import Derived.Test.YtkenjknmfhoppaaGreatPk07
namespace Go.Proofs.YtkenjknmfhoppaaGreat
open Go.RowKit
set_option linter.unusedVariables false
set_option maxHeartbeats 6400000
set_option maxRecDepth 20000
def iN (zs:List Int):Prop:=∀i:Nat,0<=zs[i]?.getD 0∧zs[i]?.getD 0<=255
def sC (zs:List Int):Prop:=∀i:Nat,0<=zs[i]?.getD 0∧zs[i]?.getD 0<=18446744073709551615
def inU (x:Int):Prop:=0<=x∧x<=18446744073709551615
def kOk (k:KM):Prop:=gy k.i∧gy k.d∧gy k.p
structure HOk (h:HartM):Prop where
 valid:rZ h=true
 mem:iN h.mem
 regs:sC h.regs
 pc:inU h.pc
 satp:inU h.satp
 tvec:inU h.tvec
 epc:inU h.epc
 tval:inU h.tval
 ks:kOk h.k
structure ROk (r:RunM):Prop where
 h:HOk r.h
 cause:0<=r.cause∧r.cause<=63
 tval:inU r.tval
 looks:∀l∈r.looks,(0<=l.1∧l.1<=2)∧inU l.2
 fva:inU r.fence.va
 fas:inU r.fence.asid
structure VH (h:HartM):Prop where
 size:eR h.mem.length=true
 regs:h.regs.length=8
 zero:h.regs[0]?.getD 0=0
 mode:0<=h.mode∧h.mode<=2
 emode:0<=h.emode∧h.emode<=2
 satp:du h.satp=true
 tvec:h.tvec%4=0
 cause:0<=h.cause∧h.cause<=63
 ks:cS h.k=true
theorem eh (h:HartM):rZ h=true↔VH h:=by
 simp only [rZ,iR,Bool.and_eq_true,decide_eq_true_eq,beq_iff_eq];constructor
 ·rintro ⟨⟨a,⟨⟨⟨⟨⟨⟨b,c⟩,d⟩,e⟩,f⟩,g⟩,i⟩⟩,j⟩;exact ⟨a,b,c,d,e,f,g,i,j⟩
 ·rintro ⟨a,b,c,d,e,f,g,i,j⟩;exact ⟨⟨a,⟨⟨⟨⟨⟨⟨b,c⟩,d⟩,e⟩,f⟩,g⟩,i⟩⟩,j⟩
theorem HOk.v {h:HartM} (k:HOk h):VH h:=(eh h).1 k.valid
theorem iO {n:Nat} (h:eR n=true):n%64=0∧64<=n∧n<=4096:=by simpa [eR] using h
theorem Ep (pte level va:Int):inU (fT pte level va):=by
 have hp:0<=dK pte∧dK pte<17592186044416:=by unfold dK;omega
 unfold fT iq inU;split
 ·omega
 ·split
  ·omega
  ·split <;> omega
theorem sD (kind:Int):0<=fk kind∧fk kind<=63:=by unfold fk;split;omega;split <;> omega
theorem sE (kind:Int):0<=bY kind∧bY kind<=63:=by unfold bY;split;omega;split <;> omega
theorem xV (pte level mode:Int) (sum mxr:Bool) (kind va:Int):(0<=(gB pte level mode sum mxr kind va).1∧(gB pte level mode sum mxr kind va).1<=63)∧inU (gB pte level mode sum mxr kind va).2:=by
 unfold gB;split
 ·exact ⟨⟨by simp,by simp⟩,Ep _ _ _⟩
 ·exact ⟨sD kind,by simp [inU]⟩
theorem sF (r:Int × Int × Int × List aQ) (mode:Int) (sum mxr:Bool) (kind va:Int):(0<=(cY r mode sum mxr kind va).1∧(cY r mode sum mxr kind va).1<=63)∧inU (cY r mode sum mxr kind va).2:=by
 unfold cY;split
 ·exact ⟨sD kind,by simp [inU]⟩
 ·split
  ·exact ⟨sE kind,by simp [inU]⟩
  ·exact xV _ _ _ _ _ _ _
theorem Cw (zs:List Int) (mode:Int) (sum mxr:Bool) (satp kind va:Int) (hv:inU va):(0<=(gx zs mode sum mxr satp kind va).1∧(gx zs mode sum mxr satp kind va).1<=63)∧inU (gx zs mode sum mxr satp kind va).2:=by
 unfold gx;split
 ·exact ⟨⟨by simp,by simp⟩,by simp [inU]⟩
 ·split
  ·exact ⟨⟨by simp,by simp⟩,hv⟩
  ·exact sF _ _ _ _ _ _
theorem xW (zs:List Int) (mode:Int) (sum mxr:Bool) (satp:Int) (k:KM) (kind va pick:Int) (hz:iN zs) (hk:kOk k) (hv:inU va):
 kOk (cD zs mode sum mxr satp k kind va pick).2∧(0<=(cD zs mode sum mxr satp k kind va pick).1.1∧(cD zs mode sum mxr satp k kind va pick).1.1<=63)∧inU (cD zs mode sum mxr satp k kind va pick).1.2:=by
 unfold cD;by_cases hb:cS k=false∨kind<0∨2<kind∨mode<0∨2<mode∨pick<0∨255<pick
 ·rw [if_pos hb];have h0:gy eO:=⟨fun e he=>absurd he (by simp [eO]),by simp [eO],by simp [eO],by simp [eO]⟩;exact ⟨⟨h0,h0,h0⟩,⟨by simp,by simp⟩,by simp [inU]⟩
 ·rw [if_neg hb];have hg:cS k=true:=by
   cases hh:cS k
   ·exact absurd (.inl hh) hb
   ·rfl
  split
  ·exact ⟨hk,⟨by simp,by simp⟩,hv⟩
  ·split
   ·exact ⟨hk,sD kind,by simp [inU]⟩
   ·split
    ·have:=xV (cB (fq k kind) va (aO satp)).2.2.2 (cB (fq k kind) va (aO satp)).2.2.1 mode sum mxr kind va;exact ⟨hk,this.1,this.2⟩
    ·simp only;have hgp:aY k.p true=true:=by simp only [cS,Bool.and_eq_true] at hg;exact hg.2
     obtain ⟨_,_,hl⟩:=wY zs satp va k.p (aO satp) hgp hk.2.2.1 hz;have ha:=sF (aX zs satp va (cB k.p va (aO satp))) mode sum mxr kind va;have hp:=BD va satp pick _ k.p hk.2.2 hl.recs;refine ⟨?_,ha.1,ha.2⟩;have ht:gy (fq k kind):=by unfold fq;split;exact hk.1;exact hk.2.1
     have hi:=uP pick ht (BC (aX zs satp va (cB k.p va (aO satp))).2.1 va satp (aX zs satp va (cB k.p va (aO satp))).2.2.1 hl.level hl.pte);split
     ·unfold xh;split
      ·exact ⟨hi,hk.2.1,hp⟩
      ·exact ⟨hk.1,hi,hp⟩
     ·exact ⟨hk.1,hk.2.1,hp⟩
theorem jB {h:HartM} (hh:HOk h) (plain:Bool) {pick kind va:Int} (hp:0<=pick∧pick<=255) (hk:0<=kind∧kind<=2) (hv:inU va):
 HOk (withK h (aV plain pick h kind va).2)∧(0<=(aV plain pick h kind va).1.1∧(aV plain pick h kind va).1.1<=63)∧inU (aV plain pick h kind va).1.2:=by
 have v:=hh.v;cases plain
 ·have e:aV false pick h kind va=cD h.mem h.mode h.sum h.mxr h.satp h.k kind va pick:=rfl;rw [e];obtain ⟨t1,t2,t3⟩:=xW h.mem h.mode h.sum h.mxr h.satp h.k kind va pick hh.mem hh.ks hv;have tg:=tX h.mem h.mode h.sum h.mxr h.satp h.k kind va pick v.ks hk v.mode hp;refine ⟨⟨(eh _).2 ⟨v.size,v.regs,v.zero,v.mode,v.emode,v.satp,v.tvec,v.cause,tg⟩,hh.mem,hh.regs,hh.pc,hh.satp,hh.tvec,hh.epc,hh.tval,t1⟩,t2,t3⟩
 ·have e:aV true pick h kind va=(gx h.mem h.mode h.sum h.mxr h.satp kind va,h.k):=rfl;rw [e];have:=Cw h.mem h.mode h.sum h.mxr h.satp kind va hv;exact ⟨hh,this.1,this.2⟩
theorem jD {r:RunM} (hr:ROk r) (plain:Bool) {pick kind va:Int} (hp:0<=pick∧pick<=255) (hk:0<=kind∧kind<=2) (hv:inU va):ROk (bf plain pick r kind va):=by
 refine ⟨(jB hr.h plain hp hk hv).1,hr.cause,hr.tval,?_,hr.fva,hr.fas⟩;intro l hl;rcases List.mem_append.1 hl with hl | hl
 ·exact hr.looks l hl
 ·rw [List.mem_singleton] at hl;subst hl;exact ⟨hk,hv⟩
theorem iT {r:RunM} (hr:ROk r) {c t:Int} (hc:0<=c∧c<=63) (ht:inU t):ROk (bS r c t):=⟨hr.h,hc,ht,hr.looks,hr.fva,hr.fas⟩
def eA (ps:List bH):Prop:=∀p∈ps,inU p.1∧(1<=p.2.1∧p.2.1<=8)∧inU p.2.2
theorem sG (va w:Int) (hv:inU va) (hw:1<=w∧w<=8):eA (cM va w):=by
 unfold inU at hv;unfold cM;split
 ·intro p hp;simp only [List.mem_cons,List.not_mem_nil,or_false] at hp;rcases hp with rfl | rfl
  ·exact ⟨hv,by simp only;omega,by simp [inU]⟩
  ·exact ⟨by simp only [inU];omega,by simp only;omega,by simp [inU]⟩
 ·intro p hp;simp only [List.mem_singleton] at hp;subst hp;exact ⟨hv,hw,by simp [inU]⟩
theorem fQ (plain:Bool) {pick kind:Int} (hp:0<=pick∧pick<=255) (hk:0<=kind∧kind<=2):∀(ps:List bH) (r:RunM),ROk r->eA ps->ROk (ag plain pick kind r ps).1∧eA (ag plain pick kind r ps).2
 | [],r,hr,hs=>⟨hr,hs⟩
 | p::ps,r,hr,hs=>by
  have h1:=hs p (List.mem_cons_self ..);have hl:=jD hr plain hp hk h1.1;have ht:=jB hr.h plain hp hk h1.1;rw [ag];split
  ·have:=fQ plain hp hk ps _ hl (fun q hq=>hs q (List.mem_cons_of_mem _ hq));refine ⟨this.1,fun q hq=>?_⟩;rcases List.mem_cons.1 hq with rfl | hq
   ·exact ⟨h1.1,h1.2.1,ht.2.2⟩
   ·exact this.2 q hq
  ·exact ⟨iT hl ht.2.1 h1.1,hs⟩
theorem xX {mem:List Int}:∀{ps:List bH} {v:Int},fY mem ps=some v->∃p∈ps,p.1=v
 | p::ps,v,h=>by
  rw [fY] at h;split at h
  ·obtain ⟨q,hq,e⟩:=xX h;exact ⟨q,List.mem_cons_of_mem _ hq,e⟩
  ·cases h;exact ⟨p,List.mem_cons_self ..,rfl⟩
theorem iC (plain:Bool) {pick kind va w:Int} {r:RunM} (hp:0<=pick∧pick<=255) (hk:0<=kind∧kind<=2) (hv:inU va) (hw:1<=w∧w<=8) (hr:ROk r):ROk (aw plain pick r kind va w).1∧eA (aw plain pick r kind va w).2:=by
 have:=fQ plain hp hk (cM va w) r hr (sG va w hv hw);unfold aw;generalize ag plain pick kind r (cM va w)=z at this |-;split
 ·split
  ·exact this
  ·rename_i v ho;obtain ⟨p,hp',e⟩:=xX ho;exact ⟨iT this.1 (sE kind) (by rw [<-e];exact (this.2 p hp').1),this.2⟩
 ·exact this
theorem Er {zs:List Int} (h:sC zs) (n:Nat) {x:Int} (hx:inU x):sC (zs.set n x):=by
 intro i;rw [List.getElem?_set];split
 ·split
  ·exact hx
  ·simp
 ·exact h i
theorem Iq {h:HartM} (hr:sC h.regs) (a:Int):inU (gu h a):=hr a.toNat
theorem iD {r:RunM} (hr:ROk r) (a:Int) {x:Int} (hx:inU x):ROk (cz r a x):=by
 have v:=hr.h.v;unfold cz;by_cases ha:0<a
 ·rw [if_pos ha];refine ⟨⟨(eh _).2 ⟨v.size,by simp [bM,eW,v.regs],?_,v.mode,v.emode,v.satp,v.tvec,v.cause,v.ks⟩,hr.h.mem,Er hr.h.regs _ hx,hr.h.pc,hr.h.satp,hr.h.tvec,hr.h.epc,hr.h.tval,hr.h.ks⟩,hr.cause,hr.tval,hr.looks,hr.fva,hr.fas⟩;show (r.h.regs.set a.toNat x)[0]?.getD 0=0;rw [List.getElem?_set_ne (by omega)];exact v.zero
 ·rw [if_neg ha];exact hr
theorem Gp {r:RunM} (hr:ROk r) {m:List Int} (hl:m.length=r.h.mem.length) (hm:iN m):ROk (bM r (et r.h m)):=by
 have v:=hr.h.v;exact ⟨⟨(eh _).2 ⟨by show eR m.length=true;rw [hl];exact v.size,v.regs,v.zero,v.mode,v.emode,v.satp,v.tvec,v.cause,v.ks⟩,hm,hr.h.regs,hr.h.pc,hr.h.satp,hr.h.tvec,hr.h.epc,hr.h.tval,hr.h.ks⟩,hr.cause,hr.tval,hr.looks,hr.fva,hr.fas⟩
theorem Cx {zs ys:List Int} {k:Nat} (h:iN zs) (hy:∀y∈ys,0<=y∧y<=255):iN (put zs k ys):=by
 refine dc fun z hz=>?_;unfold put at hz;rw [List.append_assoc,List.mem_append,List.mem_append] at hz;rcases hz with hz | hz | hz
 ·exact dW h z (List.mem_of_mem_take hz)
 ·exact hy z hz
 ·exact dW h z (List.mem_of_mem_drop hz)
theorem xY {mem:List Int}:∀{ps:List bH},fY mem ps=none->∀p∈ps,fN mem.length p.2.2 p.2.1=true
 | p::ps,h,q,hq=>by
  rw [fY] at h;split at h
  ·rcases List.mem_cons.1 hq with rfl | hq
   ·assumption
   ·exact xY h q hq
  ·cases h
theorem kE {plain:Bool} {pick kind va w:Int} {r:RunM} (h0:(aw plain pick r kind va w).1.cause=0):∀p∈(aw plain pick r kind va w).2,fN (aw plain pick r kind va w).1.h.mem.length p.2.2 p.2.1=true:=by
 unfold aw at h0 |-;generalize ag plain pick kind r (cM va w)=z at h0 |-;by_cases hc:z.1.cause=0
 ·rw [if_pos hc] at h0 |-;cases ho:fY z.1.h.mem z.2 with
  | none=>
   exact xY ho
  | some v=>
   rw [ho] at h0;exact absurd h0 (iK kind)
 ·rw [if_neg hc] at h0;exact absurd h0 hc
theorem Aj:∀(ps:List bH) (mem b:List Int),iN mem->(∀y∈b,0<=y∧y<=255)->(∀p∈ps,fN mem.length p.2.2 p.2.1=true)->eA ps->(jd mem ps b).length=mem.length∧iN (jd mem ps b)
 | [],mem,b,hm,hb,hi,hs=>⟨rfl,hm⟩
 | p::ps,mem,b,hm,hb,hi,hs=>by
  have h1:=hi p (List.mem_cons_self ..);have h2:=(hs p (List.mem_cons_self ..)).2;simp only [fN,decide_eq_true_eq] at h1;obtain ⟨h21,h22⟩:=h2;unfold inU at h22;have hl:(put mem p.2.2.toNat (b.take p.2.1.toNat)).length=mem.length:=Br mem _ _ (by rw [List.length_take];omega);rw [jd];have:=Aj ps (put mem p.2.2.toNat (b.take p.2.1.toNat)) (b.drop p.2.1.toNat) (Cx hm fun y hy=>hb y (List.mem_of_mem_take hy)) (fun y hy=>hb y (List.mem_of_mem_drop hy)) (fun q hq=>by rw [hl];exact hi q (List.mem_cons_of_mem _ hq)) (fun q hq=>hs q (List.mem_cons_of_mem _ hq));rw [hl] at this;exact this
theorem jo {mem:List Int} (hm:iN mem):∀(ps:List bH),∀z∈cN mem ps,0<=z∧z<=255
 | p::ps,z,hz=>by
  rw [cN,List.mem_append] at hz;rcases hz with hz | hz
  ·exact dW hm z (List.mem_of_mem_drop (List.mem_of_mem_take hz))
  ·exact jo hm ps z hz
def iU:List bH->Int
 | []=>0
 | p::ps=>p.2.1+iU ps
theorem kj (mem:List Int):∀(ps:List bH),eA ps->((cN mem ps).length:Int)<=iU ps
 | [],_=>by simp [cN,iU]
 | p::ps,h=>by
  have h1:=(h p (List.mem_cons_self ..)).2.1;have:=kj mem ps fun q hq=>h q (List.mem_cons_of_mem _ hq);rw [cN,iU,List.length_append,List.length_take];omega
theorem mr (plain:Bool) (pick kind:Int):∀(ps:List bH) (r:RunM),iU (ag plain pick kind r ps).2=iU ps
 | [],r=>rfl
 | p::ps,r=>by
  rw [ag];split
  ·rw [iU,iU,mr plain pick kind ps _]
  ·rfl
theorem kF (plain:Bool) (pick kind va w:Int) (r:RunM):iU (aw plain pick r kind va w).2=w:=by
 have hc:iU (cM va w)=w:=by
  unfold cM;split <;> simp only [iU] <;> omega
 have:=mr plain pick kind (cM va w) r;unfold aw;generalize ag plain pick kind r (cM va w)=z at this |-;split
 ·split <;> (rw [this,hc])
 ·rw [this,hc]
theorem Es {mem:List Int} (hm:iN mem) {ps:List bH} (hs:eA ps) (hl:iU ps<=8):inU (jk mem ps):=by
 have h1:=kj mem ps hs;have:=my (cN mem ps) 8 (jo hm ps) (by omega);unfold jk inU;have e:(256:Int)^8=18446744073709551616:=by decide
 omega
theorem fw (x:Int):inU (x%18446744073709551616):=by unfold inU;omega
theorem sH {t:RunM × List bH} (hr:ROk t.1) (hs:eA t.2) (hi:∀p∈t.2,fN t.1.h.mem.length p.2.2 p.2.1=true) (x:Int) (n:Nat):ROk (dg t (cT x n)):=by
 have:=Aj t.2 t.1.h.mem (cT x n) hr.h.mem (jX n x) hi hs;exact Gp hr this.1 this.2
theorem li (c:Int) (hc:0<=c):1<=je (c%4)∧je (c%4)<=8:=by
 unfold je;rcases (show c%4=0∨c%4=1∨c%4=2∨c%4=3 by omega) with h | h | h | h <;> rw [h] <;> decide
theorem Et (plain:Bool) {pick ea w a:Int} {r:RunM} (hp:0<=pick∧pick<=255) (hv:inU ea) (hw:1<=w∧w<=8) (hr:ROk r):ROk (iB plain pick r ea w a):=by
 obtain ⟨h1,h2⟩:=iC plain hp (kind:=1) (by omega) hv hw hr;have h3:=kF plain pick 1 ea w r;unfold iB;generalize aw plain pick r 1 ea w=z at h1 h2 h3 |-;split
 ·exact iD h1 a (Es h1.h.mem h2 (by omega))
 ·exact h1
theorem Cy (plain:Bool) {pick ea w x:Int} {r:RunM} (hp:0<=pick∧pick<=255) (hv:inU ea) (hw:1<=w∧w<=8) (hr:ROk r):ROk (fJ plain pick r ea w x):=by
 obtain ⟨h1,h2⟩:=iC plain hp (kind:=2) (by omega) hv hw hr;have h4:=@kE plain pick 2 ea w r;unfold fJ;generalize aw plain pick r 2 ea w=z at h1 h2 h4 |-;split
 ·rename_i h0;exact sH h1 h2 (h4 h0) _ _
 ·exact h1
theorem Gq (plain:Bool) {pick ea a x:Int} {r:RunM} (hp:0<=pick∧pick<=255) (hv:inU ea) (hr:ROk r):ROk (mg plain pick r ea a x):=by
 obtain ⟨h1,h2⟩:=iC plain hp (kind:=2) (by omega) hv (w:=8) (by omega) hr;have h3:=kF plain pick 2 ea 8 r;have h4:=@kE plain pick 2 ea 8 r;unfold mg;generalize aw plain pick r 2 ea 8=z at h1 h2 h3 h4 |-;split
 ·rename_i h0;exact iD (sH h1 h2 (h4 h0) _ _) a (Es h1.h.mem h2 (by omega))
 ·exact h1
theorem sI {t:TlbM} {f:FenceM} (h:gy t):gy (ir t f):=by
 unfold ir;split
 ·refine ⟨fun e he=>?_,h.2.1,h.2.2.1,by simpa using h.2.2.2⟩;simp only [List.mem_map] at he;obtain ⟨y,hy,rfl⟩:=he;unfold df;split
  ·simp [iW,cZ]
  ·exact h.1 y hy
 ·exact h
theorem Ir (plain:Bool) {pick pc op a b c s word:Int} {r:RunM} (hp:0<=pick∧pick<=255) (hc:0<=c) (hw:inU word) (hr:ROk r):ROk (doM plain pick r pc op a b c s word):=by
 have v:=hr.h.v;have rg:=fun x=>Iq hr.h.regs x;have hea:inU (eaM r.h b s):=fw _;unfold doM;by_cases hi:bR op c r.h.mode=true
 ·rw [if_pos hi];exact iT hr (by omega) hw
 rw [if_neg hi];by_cases o1:op=1
 ·rw [if_pos o1];exact iD hr _ (fw _)
 rw [if_neg o1];by_cases o2:op=2
 ·rw [if_pos o2];exact iD hr _ (fw _)
 rw [if_neg o2];by_cases o3:op=3
 ·rw [if_pos o3];exact iD hr _ hea
 rw [if_neg o3];by_cases o4:op=4
 ·rw [if_pos o4];exact iD hr _ (fw _)
 rw [if_neg o4];by_cases o5:op=5
 ·rw [if_pos o5];exact Et plain hp hea (li c hc) hr
 rw [if_neg o5];by_cases o6:op=6
 ·rw [if_pos o6];exact Cy plain hp hea (li c hc) hr
 rw [if_neg o6];by_cases o7:op=7
 ·rw [if_pos o7];exact Gq plain hp hea hr
 rw [if_neg o7];by_cases o8:op=8
 ·rw [if_pos o8];split
  ·exact hr
  ·exact ⟨⟨(eh _).2 ⟨v.size,v.regs,v.zero,v.mode,v.emode,v.satp,v.tvec,v.cause,v.ks⟩,hr.h.mem,hr.h.regs,fw _,hr.h.satp,hr.h.tvec,hr.h.epc,hr.h.tval,hr.h.ks⟩,hr.cause,hr.tval,hr.looks,hr.fva,hr.fas⟩
 rw [if_neg o8];by_cases o9:op=9
 ·rw [if_pos o9];split
  ·rename_i hs;exact ⟨⟨(eh _).2 ⟨v.size,v.regs,v.zero,v.mode,v.emode,hs,v.tvec,v.cause,v.ks⟩,hr.h.mem,hr.h.regs,hr.h.pc,rg a,hr.h.tvec,hr.h.epc,hr.h.tval,hr.h.ks⟩,hr.cause,hr.tval,hr.looks,hr.fva,hr.fas⟩
  ·exact hr
 rw [if_neg o9];by_cases o10:op=10
 ·rw [if_pos o10];exact ⟨⟨(eh _).2 ⟨v.size,v.regs,v.zero,v.mode,v.emode,v.satp,v.tvec,v.cause,v.ks⟩,hr.h.mem,hr.h.regs,hr.h.pc,hr.h.satp,hr.h.tvec,hr.h.epc,hr.h.tval,hr.h.ks⟩,hr.cause,hr.tval,hr.looks,hr.fva,hr.fas⟩
 rw [if_neg o10];by_cases o11:op=11
 ·rw [if_pos o11];have rb:=rg b;have hfas:inU (kf r.h a b).asid:=by unfold inU at rb |-;show 0<=gu r.h b%65536∧gu r.h b%65536<=_;omega
  cases plain
  ·exact ⟨⟨(eh _).2 ⟨v.size,v.regs,v.zero,v.mode,v.emode,v.satp,v.tvec,v.cause,rF _ _ v.ks⟩,hr.h.mem,hr.h.regs,hr.h.pc,hr.h.satp,hr.h.tvec,hr.h.epc,hr.h.tval,sI hr.h.ks.1,sI hr.h.ks.2.1,sI hr.h.ks.2.2⟩,hr.cause,hr.tval,hr.looks,rg a,hfas⟩
  ·exact ⟨hr.h,hr.cause,hr.tval,hr.looks,rg a,hfas⟩
 rw [if_neg o11];by_cases o12:op=12
 ·rw [if_pos o12];exact ⟨⟨(eh _).2 ⟨v.size,v.regs,v.zero,v.emode,v.emode,v.satp,v.tvec,v.cause,v.ks⟩,hr.h.mem,hr.h.regs,fw _,hr.h.satp,hr.h.tvec,hr.h.epc,hr.h.tval,hr.h.ks⟩,hr.cause,hr.tval,hr.looks,hr.fva,hr.fas⟩
 rw [if_neg o12];by_cases o13:op=13
 ·rw [if_pos o13];have hc2:c<=2:=by
   simp only [bR,Bool.or_eq_true,decide_eq_true_eq,not_or] at hi;omega
  exact ⟨⟨(eh _).2 ⟨v.size,v.regs,v.zero,v.mode,⟨hc,hc2⟩,v.satp,v.tvec,v.cause,v.ks⟩,hr.h.mem,hr.h.regs,hr.h.pc,hr.h.satp,hr.h.tvec,rg a,hr.h.tval,hr.h.ks⟩,hr.cause,hr.tval,hr.looks,hr.fva,hr.fas⟩
 rw [if_neg o13];have hmd:=v.mode;by_cases o14:op=14
 ·rw [if_pos o14];exact iT hr (by omega) (by simp [inU])
 rw [if_neg o14];exact iT hr (by omega) hw
theorem qC {r:RunM} (hr:ROk r):ROk (bM r (dX r.h ((r.h.pc+4)%18446744073709551616))):=by
 have v:=hr.h.v;exact ⟨⟨(eh _).2 ⟨v.size,v.regs,v.zero,v.mode,v.emode,v.satp,v.tvec,v.cause,v.ks⟩,hr.h.mem,hr.h.regs,fw _,hr.h.satp,hr.h.tvec,hr.h.epc,hr.h.tval,hr.h.ks⟩,hr.cause,hr.tval,hr.looks,hr.fva,hr.fas⟩
theorem Gr (plain:Bool) {pick x:Int} {r:RunM} (hp:0<=pick∧pick<=255) (hx:inU x) (hr:ROk r):ROk (hH plain pick r x):=by
 have hr':=qC hr;unfold hH fj;generalize bM r (dX r.h ((r.h.pc+4)%18446744073709551616))=y at hr' |-;exact Ir plain hp (by omega) hx hr'
theorem xZ (plain:Bool) {pick:Int} {r:RunM} (hp:0<=pick∧pick<=255) (hr:ROk r):ROk (dn plain pick r):=by
 have ht:=jB hr.h plain hp (kind:=0) (by omega) hr.h.pc;have hl:=jD hr plain hp (kind:=0) (by omega) hr.h.pc;have hx:inU (jf plain pick r.h):=oY _ _ 4 (by omega) hr.h.mem;unfold dn;generalize bf plain pick r 0 r.h.pc=z at hl |-;split
 ·split
  ·split
   ·exact Gr plain hp hx hl
   ·exact iT hl (by omega) hr.h.pc
  ·exact iT hl ht.2.1 hr.h.pc
 ·exact iT hr (by omega) hr.h.pc
theorem kG {t:TlbM} {n:Int} (h:gy t):gy (bj t n):=by
 refine ⟨fun e he=>?_,h.2.1,h.2.2.1,by simpa [bj] using h.2.2.2⟩;rcases List.mem_or_eq_of_mem_set he with he | rfl
 ·exact h.1 e he
 ·simp [iW,cZ]
theorem kH (plain:Bool) (pick:Int) {h:HartM} (hh:HOk h):ROk (bI plain pick h):=by
 have v:=hh.v;refine ⟨⟨(eh _).2 ⟨v.size,v.regs,v.zero,v.mode,v.emode,v.satp,v.tvec,v.cause,tN plain pick _ v.ks⟩,hh.mem,hh.regs,hh.pc,hh.satp,hh.tvec,hh.epc,hh.tval,?_⟩,⟨by simp [bI],by simp [bI]⟩,by simp [bI,inU],fun l hl=>by simp [bI] at hl,by simp [bI,fh,inU],by simp [bI,fh,inU]⟩;show kOk (fi plain pick h.k);unfold fi;split
 ·exact ⟨kG hh.ks.1,kG hh.ks.2.1,kG hh.ks.2.2⟩
 ·exact hh.ks
theorem mt (plain:Bool) {pick:Int} {h:HartM} (hp:0<=pick∧pick<=255) (hh:HOk h):ROk (bT plain pick h):=by
 have hb:=xZ plain hp (kH plain pick hh);have v:=hh.v;have vb:=hb.h.v;unfold bT lQ;generalize dn plain pick (bI plain pick h)=z at hb vb |-;split
 ·exact hb
 ·exact ⟨⟨(eh _).2 ⟨v.size,v.regs,v.zero,by simp [bM,dB],v.mode,v.satp,v.tvec,hb.cause,vb.ks⟩,hh.mem,hh.regs,hh.tvec,hh.satp,hh.tvec,hh.pc,hb.tval,hb.h.ks⟩,hb.cause,hb.tval,hb.looks,hb.fva,hb.fas⟩
structure PtrM where
 am:Option Addr
 cm:Nat
 ar:Option Addr
 cr:Nat
 a1:Option Addr
 c1:Nat
 a2:Option Addr
 c2:Nat
 a3:Option Addr
 c3:Nat
def kA (p:PtrM) (k:KM):Array Value:=#[VI k.i.sets,VI k.i.ways,.slice p.a1 k.i.es.length p.c1,VI k.d.sets,VI k.d.ways,.slice p.a2 k.d.es.length p.c2,VI k.p.sets,VI k.p.ways,.slice p.a3 k.p.es.length p.c3]
def aj (p:PtrM) (h:HartM):Array Value:=#[.slice p.am h.mem.length p.cm,.slice p.ar h.regs.length p.cr,VU h.pc,VI h.mode,.bool h.sum,.bool h.mxr,VU h.satp,VU h.tvec,VU h.epc,VI h.emode,VI h.cause,VU h.tval,
 VI h.k.i.sets,VI h.k.i.ways,.slice p.a1 h.k.i.es.length p.c1,VI h.k.d.sets,VI h.k.d.ways,.slice p.a2 h.k.d.es.length p.c2,VI h.k.p.sets,VI h.k.p.ways,.slice p.a3 h.k.p.es.length p.c3]
def aF (p:PtrM) (al:Option Addr) (cl:Nat) (plain:Bool) (pick:Int) (r:RunM):Array Value:=#[.slice p.am r.h.mem.length p.cm,.slice p.ar r.h.regs.length p.cr,VU r.h.pc,VI r.h.mode,.bool r.h.sum,.bool r.h.mxr,VU r.h.satp,VU r.h.tvec,VU r.h.epc,VI r.h.emode,VI r.h.cause,VU r.h.tval,
 VI r.h.k.i.sets,VI r.h.k.i.ways,.slice p.a1 r.h.k.i.es.length p.c1,VI r.h.k.d.sets,VI r.h.k.d.ways,.slice p.a2 r.h.k.d.es.length p.c2,VI r.h.k.p.sets,VI r.h.k.p.ways,.slice p.a3 r.h.k.p.es.length p.c3,
 .bool plain,VI pick,VI r.cause,VU r.tval,.slice al r.looks.length cl,.bool r.fenced,.bool r.fence.hasVa,VU r.fence.va,.bool r.fence.hasAsid,VU r.fence.asid]
def fH:List (Int × Int)->List Value
 | []=>[]
 | l::ls=>.int .i64 l.1::.int .u64 l.2::fH ls
def dm (zs:List Int):List Value:=zs.map (Value.int .u64)
def aU (p:PtrM):List (Option Addr):=[p.am,p.ar,p.a1,p.a2,p.a3]
def From (B:Nat) (p p':PtrM):Prop:=∀q,some q∈aU p'->some q∈aU p∨B<=q.block
def FromL (B:Nat) (al al':Option Addr):Prop:=∀q,al'=some q->al=some q∨B<=q.block
structure HartIn (w:World) (p:PtrM) (h:HartM):Prop where
 mem:Byt w p.am h.mem.length h.mem
 memc:h.mem.length<=p.cm∧p.cm<=9223372036854775807
 regs:RowC w p.ar h.regs.length 1 (dm h.regs)
 regc:h.regs.length<=p.cr∧p.cr<=9223372036854775807
 rega:(p.ar=none->h.regs.length=0∧p.cr=0)∧∀q,p.ar=some q->q.spot=none
 ks:KAt w (.agg (kA p h.k)) h.k
 low:∀q,some q∈aU p->q.block<w.heap.size
structure RunIn (w:World) (p:PtrM) (al:Option Addr) (cl:Nat) (r:RunM):Prop where
 h:HartIn w p r.h
 looks:RowC w al r.looks.length 2 (fH r.looks)
 lookc:r.looks.length<=cl∧cl<=9223372036854775807
 looka:(al=none->r.looks.length=0∧cl=0)∧∀q,al=some q->q.spot=none
 lookl:r.looks.length<=8
 low:∀q,al=some q->q.block<w.heap.size
theorem HartIn.keep {w w':World} {p:PtrM} {h:HartM} (k:HartIn w p h) (hb:Bw w w'):HartIn w' p h:=
 ⟨k.mem.keep hb,k.memc,k.regs.keep hb,k.regc,k.rega,k.ks.keep hb,fun q hq=>ltl (k.low q hq) hb.size⟩
theorem RunIn.keep {w w':World} {p:PtrM} {al:Option Addr} {cl:Nat} {r:RunM} (k:RunIn w p al cl r) (hb:Bw w w'):RunIn w' p al cl r:=
 ⟨k.h.keep hb,k.looks.keep hb,k.lookc,k.looka,k.lookl,fun q hq=>ltl (k.low q hq) hb.size⟩
theorem Byt.gb' {w w':World} {a:Option Addr} {len r:Nat} {zs:List Int} (h:Byt w a len zs) (hg:w.grownBy w' (some r)) (hne:∀q,a=some q->q.block≠r):Byt w' a len zs:=by
 obtain ⟨h1,h2,h3⟩:=h;refine ⟨h1,h2,?_⟩;rcases h3 with h3 | ⟨b,off,rfl,hb,hc⟩
 ·exact .inl h3
 ·have hne':=hne (AD b off) rfl;exact .inr ⟨b,off,rfl,ltl hb hg.size,fun i hi=>(World.cell?_of_block (hg.block b hb (by simpa using hne'))).trans (hc i hi)⟩
theorem TlbAt.gb' {w w':World} {t:TlbM} {a:Option Addr} {n c r:Nat} {x y:Value} (h:TlbAt w (.agg #[x,y,.slice a n c]) t) (hg:w.grownBy w' (some r)) (hne:∀q,a=some q->q.block≠r):TlbAt w' (.agg #[x,y,.slice a n c]) t:=by
 obtain ⟨a',c',he,hr,rest⟩:=h;simp only [Value.agg.injEq,Array.mk.injEq,List.cons.injEq,Value.slice.injEq,and_true] at he;obtain ⟨rfl,rfl,rfl,rfl,rfl⟩:=he;exact ⟨_,_,rfl,RowC.gb' hr hg hne,rest⟩
theorem HartIn.gb {w w':World} {p:PtrM} {h:HartM} {r:Nat} (k:HartIn w p h) (hg:w.grownBy w' (some r)) (hne:∀q,some q∈aU p->q.block≠r):HartIn w' p h:=by
 refine ⟨k.mem.gb' hg fun q hq=>hne q (by simp [aU,hq]),k.memc,RowC.gb' k.regs hg fun q hq=>hne q (by simp [aU,hq]),k.regc,k.rega,?_,fun q hq=>ltl (k.low q hq) hg.size⟩;obtain ⟨a1,c1,a2,c2,a3,c3,he,t1,t2,t3⟩:=k.ks;simp only [kA,Value.agg.injEq,Array.mk.injEq,List.cons.injEq,Value.slice.injEq,true_and,and_true] at he;obtain ⟨⟨rfl,rfl⟩,⟨rfl,rfl⟩,rfl,rfl⟩:=he;exact ⟨_,_,_,_,_,_,rfl,t1.gb' hg fun q hq=>hne q (by simp [aU,hq]),t2.gb' hg fun q hq=>hne q (by simp [aU,hq]),t3.gb' hg fun q hq=>hne q (by simp [aU,hq])⟩
theorem RunIn.gb {w w':World} {p:PtrM} {al:Option Addr} {cl r:Nat} {rm:RunM} (k:RunIn w p al cl rm) (hg:w.grownBy w' (some r)) (hne:∀q,some q∈aU p->q.block≠r) (hnl:∀q,al=some q->q.block≠r):RunIn w' p al cl rm:=
 ⟨k.h.gb hg hne,RowC.gb' k.looks hg hnl,k.lookc,k.looka,k.lookl,fun q hq=>ltl (k.low q hq) hg.size⟩
abbrev fI:Array Value:=#[SN,SN,VU 0,VI 0,.bool false,.bool false,VU 0,VU 0,VU 0,VI 0,VI 0,VU 0,VI 0,VI 0,SN,VI 0,VI 0,SN,VI 0,VI 0,SN]
abbrev eV:Array Value:=#[SN,SN,VU 0,VI 0,.bool false,.bool false,VU 0,VU 0,VU 0,VI 0,VI 0,VU 0,VI 0,VI 0,SN,VI 0,VI 0,SN,VI 0,VI 0,SN,.bool false,VI 0,VI 0,VU 0,SN,.bool false,.bool false,VU 0,.bool false,VU 0]
theorem dO (p:PtrM) (al:Option Addr) (cl:Nat) (plain:Bool) (pick:Int) (r:RunM):(aF p al cl plain pick r).all (·.oneCell')=true:=by
 simp [aF,Value.oneCell']
theorem fP (p:PtrM) (h:HartM):(aj p h).all (·.oneCell')=true:=by
 simp [aj,Value.oneCell']
theorem bZ (p:PtrM) (al:Option Addr) (cl:Nat) (plain:Bool) (pick:Int) (r:RunM):(aF p al cl plain pick r).size=31:=rfl
theorem eJ (p:PtrM) (h:HartM):(aj p h).size=21:=rfl
theorem aS:eV.size=31:=rfl
theorem eZ:fI.size=21:=rfl
theorem dx:(Tryz.prog.info? 61).map (·.size)=some 31:=by kernel_rfl
theorem fm:(Tryz.prog.info? 43).map (·.size)=some 21:=by kernel_rfl
theorem jR (p:PtrM) (al:Option Addr) (cl:Nat) (plain:Bool) (pick:Int) (r:RunM) (c t:Int) (w:World):
 Calls Tryz.prog 91 #[.agg (aF p al cl plain pick r),VI c,VU t] w fun e w'=>e=.returned (.agg (aF p al cl plain pick (bS r c t)))∧Bw w w':=by
 have hsz:=bZ p al cl plain pick r;have h1:=dO p al cl plain pick r;have HE:Hid (((aF p al cl plain pick r).setIfInBounds 23 (VI c)).setIfInBounds 24 (VU t)=aF p al cl plain pick (bS r c t)):=rfl;have g23:(aF p al cl plain pick r)[23]?=some (VI r.cause):=rfl;have g24:(aF p al cl plain pick r)[24]?=some (VU r.tval):=rfl;generalize aF p al cl plain pick r=C at *;generalize aF p al cl plain pick (bS r c t)=D at *;have HO:=hid h1;clear h1;go_enter Tryz.func91,Tryz.ntmps91;go_upto_region 1 with fail;obtain ⟨v1,Ev1,F⟩:=ax2 w C eV 61 61;rw [Ev1.out];clear Ev1;obtain ⟨h3,h6,l1,n1⟩:=F;have H3:Hid _:=h3;have H6:Hid _:=h6;have b1:w.heap.size<v1.heap.size:=by omega
 have f23:=ap h3 23;have f24:=ap h3 24;have c23:=ab h3 23 g23;have c24:=ab h3 24 g24;clear h3 h6;have hz:=aS;have HL:Hid ((Instr.loadAt 61 (PT w.heap.size 0)).run Tryz.prog ((v1.setCell (AD w.heap.size 23) (VI c)).setCell (AD w.heap.size 24) (VU t))=.ok (.agg ((C.setIfInBounds 23 (VI c)).setIfInBounds 24 (VU t))) ((v1.setCell (AD w.heap.size 23) (VI c)).setCell (AD w.heap.size 24) (VU t))):=aT (bC (bC H3.out 23 _) 24 _) Tryz.underlying61 rfl (by simp only [Array.size_setIfInBounds,hsz];exact dx);have HS:Hid _:=aR (P:=Tryz.prog) (T:=61) (V:=(C.setIfInBounds 23 (VI c)).setIfInBounds 24 (VU t)) (cx (cx H6.out 23 (VI c) (show w.heap.size+1≠w.heap.size by omega)) 24 (VU t) (show w.heap.size+1≠w.heap.size by omega)) (by simp only [Array.size_setIfInBounds,hsz];exact dx) (by simp only [Array.size_setIfInBounds,hsz,hz]) (qx (qx HO.out _ rfl) _ rfl);go_wp2_with (first
  | ((with_reducible refine aZ ?_ HL.out ?_);(exact rfl))
  | ((with_reducible refine ax ?_ ?_ HS.out ?_);(exact rfl);(exact rfl)))
 have hD:D.size=31:=by rw [<-HE.out];simp only [Array.size_setIfInBounds,hsz]
 have e1:=aH (V:=(C.setIfInBounds 23 (VI c)).setIfInBounds 24 (VU t)) (cx (cx H6.out 23 (VI c) (show w.heap.size+1≠w.heap.size by omega)) 24 (VU t) (show w.heap.size+1≠w.heap.size by omega)) (by rw [HE.out,hD,hz]);have e2:=aJ (show w.heap.size<=w.heap.size+1 by omega) ((C.setIfInBounds 23 (VI c)).setIfInBounds 24 (VU t)).toList 0 _ (bP (bP n1 nle 23 (VI c)) nle 24 (VU t));rw [HE.out] at e1 e2 |-;generalize ((v1.setCell (AD w.heap.size 23) (VI c)).setCell (AD w.heap.size 24) (VU t)).setCells (w.heap.size+1) 0 D.toList=v2 at e1 e2 |-;exact dE (b:=w.heap.size+1) Tryz.results91 rfl (bE (P:=Tryz.prog) e1 Tryz.underlying61 rfl (by rw [hD];exact dx)) rfl ⟨rfl,e2⟩
theorem vH (p:PtrM) (h:HartM) (w:World):
 Calls Tryz.prog 54 #[.agg (aj p h)] w fun e w'=>e=.returned (iH h.mode h.sum h.mxr h.satp)∧Bw w w':=by
 have hsz:=eJ p h;have g3:(aj p h)[3]?=some (VI h.mode):=rfl;have g4:(aj p h)[4]?=some (.bool h.sum):=rfl;have g5:(aj p h)[5]?=some (.bool h.mxr):=rfl;have g6:(aj p h)[6]?=some (VU h.satp):=rfl;generalize aj p h=C at *;unfold iH;go_enter Tryz.func54,Tryz.ntmps54;go_upto_region 1 with fail;obtain ⟨v1,Ev1,F⟩:=ax2 w C #[VI 0,.bool false,.bool false,VU 0] 43 134;rw [Ev1.out];clear Ev1;obtain ⟨h3,h6,l1,n1⟩:=F;have c3:=ab h3 3 g3;have c4:=ab h3 4 g4;have c5:=ab h3 5 g5;have c6:=ab h3 6 g6;have k0:=ab h6 0 (v:=VI 0) rfl;have k1:=ab h6 1 (v:=.bool false) rfl;have k2:=ab h6 2 (v:=.bool false) rfl;have k3:=ab h6 3 (v:=VU 0) rfl;have f0:=ap h6 0;have f1:=ap h6 1;have f2:=ap h6 2;have f3:=ap h6 3;have ne1:w.heap.size≠w.heap.size+1:=by omega
 have ne2:w.heap.size+1≠w.heap.size:=by omega
 have b1:w.heap.size<v1.heap.size:=by omega
 have b2:w.heap.size+1<v1.heap.size:=by omega
 clear h3 h6;go_wp2_with fail;exact bodyPost_ret (v:=.agg #[VI h.mode,.bool h.sum,.bool h.mxr,VU h.satp]) (by simp [results,Tryz.results54,go_sem,k0,k1,k2,k3]) rfl ⟨rfl,bP (bP (bP (bP n1 (by omega) _ _) (by omega) _ _) (by omega) _ _) (by omega) _ _⟩
theorem qm (satp:Int) (w:World) (h0:0<=satp) (h1:satp<=18446744073709551615):
 Calls Tryz.prog 43 #[VU satp] w fun e w'=>e=.returned (.bool (du satp))∧Bw w w':=by
 have HS:Hid (du satp=(satp/1152921504606846976%16 == 0 || satp/1152921504606846976%16 == 8)):=rfl;have HB:Hid (∀u,Calls Tryz.prog 86 #[VU satp,VI 60,VI 63] u fun e w'=>e=.returned (VU (satp/1152921504606846976%16))∧∃n,w'=u.drewN n):=fun u=>bV satp 60 63 _ _ u h0 h1 (by omega) (by omega) (by omega) (by omega) (by decide) (by decide);generalize du satp=q at *;generalize satp/1152921504606846976%16=x at *;by_cases hx:x=0
 ·subst hx;have hq:q=true:=by rw [HS.out];rfl
  subst hq;go_enter Tryz.func43,Tryz.ntmps43;go_wp2_with fail;refine (HB.out w).mono ?_;rintro e v1 ⟨rfl,n,rfl⟩;go_wp2;go_ret;exact ⟨rfl,below_drewN brf n⟩
 ·have hx':(x == 0)=false:=by simpa using hx
  go_enter Tryz.func43,Tryz.ntmps43;go_wp2_with fail;refine (HB.out w).mono ?_;rintro e v1 ⟨rfl,n,rfl⟩;go_wp2_with fail;refine (HB.out _).mono ?_;rintro e v2 ⟨rfl,m,rfl⟩;go_wp2;go_ret;exact ⟨aL (by rw [HS.out,hx'];simp),below_drewN brf (n+m)⟩
theorem qq (a:Option Addr) (len cap:Nat) (zs:List Int) (i:Nat) (w:World) (h:Byt w a len zs) (hl:len<=1048576) (hi:i<=9223372036854775807):
 Calls Tryz.prog 41 #[.slice a len cap,VI i] w fun e w'=>e=.returned (VI (atM zs i))∧w'=w:=by
 obtain ⟨h1,h2,h3⟩:=h;by_cases hlt:i<len
 ·rcases h3 with h3 | ⟨b,off,rfl,hbw,hc⟩
  ·omega
  have g1:=hc i hlt;have g2:=h2 i;have HA:Hid (zs[i]?.getD 0=atM zs i):=rfl;generalize zs[i]?.getD 0=x at g1 g2 HA;clear hc h2;go_enter Tryz.func41,Tryz.ntmps41;go_wp2;go_ret;exact ⟨cL HA.out,rfl⟩
 ·have HA:Hid (atM zs i=0):=by
   show zs[i]?.getD 0=0;rw [List.getElem?_eq_none (by omega)];rfl
  clear h2 h3;go_enter Tryz.func41,Tryz.ntmps41;go_wp2;go_ret;exact ⟨cL HA.out.symm,rfl⟩
theorem Tryz.infoU:(Tryz.prog.info? 29).map (fun i=>(i.zero,i.size,i.bytes))=some (some (VU 0),1,8):=by kernel_rfl
theorem qI (zs:List Int):∀u∈dm zs,u.oneCell'=true:=by
 intro u hu;obtain ⟨_,_,rfl⟩:=List.mem_map.1 hu;rfl
theorem uM (zs:List Int) (i:Nat) (x:Int):(dm zs).set i (VU x)=dm (zs.set i x):=by simp [dm,List.map_set]
theorem sR (zs:List Int) (i:Nat) (h:i<zs.length):(dm zs)[i]?=some (VU (zs[i]?.getD 0)):=by
 simp [dm,h]
def yw (p:PtrM) (g cap:Nat):PtrM:=⟨p.am,p.cm,some (AD g 0),cap,p.a1,p.c1,p.a2,p.c2,p.a3,p.c3⟩
theorem RunIn.reg {w w':World} {p:PtrM} {al:Option Addr} {cl:Nat} {r:RunM} {rs:List Int} {g cap:Nat} (k:RunIn w p al cl r) (hb:Bw w w') (hr:RowC w' (some (AD g 0)) rs.length 1 (dm rs)) (hc:rs.length<=cap∧cap<=9223372036854775807) (hlt:g<w'.heap.size):
 RunIn w' (yw p g cap) al cl (bM r (eW r.h rs)):=
 ⟨⟨k.h.mem.keep hb,k.h.memc,hr,hc,⟨fun h=>(by cases h),fun q hq=>by cases hq;rfl⟩,k.h.ks.keep hb,fun q hq=>by
  simp only [aU,yw,List.mem_cons,List.not_mem_nil,or_false] at hq;have hl:=fun q hq=>ltl (k.h.low q hq) hb.size;rcases hq with hq | hq | hq | hq | hq
  ·exact hl q (by simp [aU,hq])
  ·cases hq;exact hlt
  ·exact hl q (by simp [aU,hq])
  ·exact hl q (by simp [aU,hq])
  ·exact hl q (by simp [aU,hq])⟩,k.looks.keep hb,k.lookc,k.looka,k.lookl,fun q hq=>ltl (k.low q hq) hb.size⟩
theorem uN {B g cap:Nat} {p:PtrM} (h:B<=g):From B p (yw p g cap):=fun q hq=>by
 simp only [aU,yw,List.mem_cons,List.not_mem_nil,or_false] at hq;rcases hq with hq | hq | hq | hq | hq
 ·exact .inl (by simp [aU,hq])
 ·cases hq;exact .inr h
 ·exact .inl (by simp [aU,hq])
 ·exact .inl (by simp [aU,hq])
 ·exact .inl (by simp [aU,hq])
theorem jq (p:PtrM) (al:Option Addr) (cl:Nat) (plain:Bool) (pick:Int) (r:RunM) (a x:Int) (w:World) (hr:RunIn w p al cl r) (ha:0<=a) (ha':a.toNat<r.h.regs.length) (hl:r.h.regs.length<=1048576):
 Calls Tryz.prog 127 #[.agg (aF p al cl plain pick r),VI a,VU x] w fun e w'=>(∃p',e=.returned (.agg (aF p' al cl plain pick (cz r a x)))∧RunIn w' p' al cl (cz r a x)∧From w.heap.size p p')∧Bw w w':=by
 obtain ⟨n,rfl⟩:=Int.eq_ofNat_of_zero_le ha;have HI:=hid hr;have HA:=hid ha';have HR:=hid hr.h.regs;have HRa:=hid hr.h.rega;have HP:Hid (∀g cap rs,rs.length=r.h.regs.length->(aF p al cl plain pick r).setIfInBounds 1 (SL g r.h.regs.length cap)=aF (yw p g cap) al cl plain pick (bM r (eW r.h rs))):=fun g cap rs hl=>by
  unfold aF yw bM eW;simp [hl]
 have HM:Hid (cz r (n:Int) x=bM r (eW r.h (if 0<(n:Int) then r.h.regs.set n x else r.h.regs))):=rfl;have hsz:=bZ p al cl plain pick r;have g1:(aF p al cl plain pick r)[1]?=some (.slice p.ar r.h.regs.length p.cr):=rfl;have HO:=hid (dO p al cl plain pick r);generalize hC:aF p al cl plain pick r=C at *;have hlen:=hl;generalize hN:r.h.regs.length=N at *;have hn:=HA.out;clear hr hC ha ha';go_enter Tryz.func127,Tryz.ntmps127;go_upto_region 1 with fail;obtain ⟨v1,Ev1,F⟩:=ax2 w C eV 61 61;rw [Ev1.out];clear Ev1;obtain ⟨h3,h6,l1,n1⟩:=F;have H3:Hid _:=h3;have H6:Hid _:=h6;have b1:w.heap.size<v1.heap.size:=by omega
 have b2:w.heap.size+1<v1.heap.size:=by omega
 have c1:=ab h3 1 g1;have OE:=OwnC.new 29 1 v1 [] 0 rfl (by decide);have nE:=(Below.refl v1.heap.size v1).alloc nle (Obj.cells #[] 29);clear h3 h6 l1;go_upto_region 2 with (at_builtin;refine hU _ rfl (.tmp 8) (.tmp 11) 28 rfl 29 Tryz.underlying28 (VU 0) 1 8 Tryz.infoU rfl (by decide) v1.heap.size v1.heap.size 0 0 [] rfl OE p.ar N p.cr (dm r.h.regs) rfl HRa.out.1 HRa.out.2 (RowC.keep (RowC.keep HR.out n1) nE) (qI _) (by omega) (by omega) v1.heap.size v1 nE nle ?_;intro g2 cap2 v2 o2 n2;clear OE nE c1);simp only [Nat.zero_add,List.nil_append] at o2 |-;have f2:=o2.facts;have K3:Hid _:=ae H3.out n2 b1;have K6:Hid _:=ae H6.out n2 b2;have n12:=bst n1 n2;have z2:=n2.size;have hcap:(cap2:Int)<=9223372036854775807:=by have:=f2.2.2.2.2;unfold maxLen at this;omega
 have HM2:Hid (cap2<=9223372036854775807):=by have:=f2.2.2.2.2;unfold maxLen at this;exact this
 have hNc:=f2.2.2.2.1;have hg1:=f2.2.1;have hg2:=f2.2.2.1;clear f2 H3 H6 n1 n2 HR HRa;have b5:w.heap.size<v2.heap.size:=by omega
 have q1:=ab K3.out 1 g1;have q2:=ap K3.out 1;have ng:w.heap.size≠g2:=by omega
 have ng':g2≠w.heap.size:=by omega
 by_cases h0:0<n
 ·have h0':(0:Int)<(n:Int):=by omega
  have HM1:Hid (cz r (n:Int) x=bM r (eW r.h (r.h.regs.set n x))):=by
   have hm:=HM.out;rw [if_pos h0'] at hm;exact hm
  have s1:=aM o2 n _ (sR r.h.regs n (by omega));have s2:=bQ o2 n;have O3:Hid (OwnC 29 1 (v2.setCell (AD g2 n) (VU x)) v1.heap.size g2 N cap2 (dm (r.h.regs.set n x))):=by
   have:=bu o2 n (VU x);rw [uM] at this;exact this
  have K3':Hid _:=cx K3.out n (VU x) (show w.heap.size≠g2 by omega);have K6':Hid _:=cx K6.out n (VU x) (show w.heap.size+1≠g2 by omega);have n3:=bP n12 (show w.heap.size<=g2 by omega) n (VU x);go_upto_region 4 with fail;generalize v2.setCell (AD g2 n) (VU x)=v3 at O3 K3' K6' n3 |-;clear q1 q2 s1 s2;have q1:=ab K3'.out 1 g1;have q2:=ap K3'.out 1;have b6:=(hpl K3'.out);go_upto_region 5 with fail;have K3q:Hid _:=bC K3'.out 1 (SL g2 N cap2);have K6q:Hid _:=cx K6'.out 1 (SL g2 N cap2) (show w.heap.size+1≠w.heap.size by omega);have n4:=bP n3 nle 1 (SL g2 N cap2);have O4:Hid _:=OwnC.gb O3.out (au (ak v3 (some w.heap.size)) 1 (SL g2 N cap2)) ng';have HV:Hid _:=HP.out g2 cap2 (r.h.regs.set n x) (by simp [hN]);have hV:(C.setIfInBounds 1 (SL g2 N cap2)).size=31:=by simp only [Array.size_setIfInBounds,hsz]
  generalize v3.setCell (AD w.heap.size 1) (SL g2 N cap2)=v4 at K3q K6q n4 O4 |-;have hone:=qx HO.out 1 (v:=SL g2 N cap2) rfl;generalize C.setIfInBounds 1 (SL g2 N cap2)=D at K3q HV hV hone;have HLr:Hid _:=aT (P:=Tryz.prog) (T:=61) K3q.out Tryz.underlying61 rfl (by rw [hV];exact dx);have HSr:Hid _:=aR (P:=Tryz.prog) (T:=61) (V:=D) K6q.out (by rw [hV];exact dx) (by rw [hV,aS]) hone;have e1:=aH (V:=D) K6q.out (by rw [hV,aS]);have e2:=aJ (show w.heap.size<=w.heap.size+1 by omega) (D).toList 0 _ n4;have eG:=aG (w.heap.size+1) (D).toList 0 v4 v4 (ak v4 _);go_wp2_with (first
   | ((with_reducible refine aZ ?_ HLr.out ?_);(exact rfl))
   | ((with_reducible refine ax ?_ ?_ HSr.out ?_);(exact rfl);(exact rfl)))
  refine dE (b:=w.heap.size+1) Tryz.results127 rfl (bE (P:=Tryz.prog) e1 Tryz.underlying61 rfl (by rw [hV];exact dx)) rfl ?_;rw [HM1.out];exact ⟨⟨yw p g2 cap2,by rw [HV.out],RunIn.reg (rs:=r.h.regs.set n x) HI.out e2 (by rw [List.length_set,hN];exact (OwnC.gb O4.out eG (by omega)).row) (by rw [List.length_set,hN];exact ⟨hNc,HM2.out⟩) (OwnC.facts (OwnC.gb O4.out eG (show g2≠w.heap.size+1 by omega))).2.2.1,uN (by omega)⟩,e2⟩
 ·have h0':¬(0:Int)<(n:Int):=by omega
  have hn0:n=0:=by omega
  have HM1:Hid (cz r (n:Int) x=bM r (eW r.h r.h.regs)):=by
   have hm:=HM.out;rw [if_neg h0'] at hm;exact hm
  clear hn0;have O2:Hid _:=o2;clear o2;go_upto_region 5 with fail;have K3q:Hid _:=bC K3.out 1 (SL g2 N cap2);have K6q:Hid _:=cx K6.out 1 (SL g2 N cap2) (show w.heap.size+1≠w.heap.size by omega);have n4:=bP n12 nle 1 (SL g2 N cap2);have O4:Hid _:=OwnC.gb O2.out (au (ak v2 (some w.heap.size)) 1 (SL g2 N cap2)) ng';have HV:Hid _:=HP.out g2 cap2 r.h.regs hN;have hV:(C.setIfInBounds 1 (SL g2 N cap2)).size=31:=by simp only [Array.size_setIfInBounds,hsz]
  generalize v2.setCell (AD w.heap.size 1) (SL g2 N cap2)=v4 at K3q K6q n4 O4 |-;have hone:=qx HO.out 1 (v:=SL g2 N cap2) rfl;generalize C.setIfInBounds 1 (SL g2 N cap2)=D at K3q HV hV hone;have HLr:Hid _:=aT (P:=Tryz.prog) (T:=61) K3q.out Tryz.underlying61 rfl (by rw [hV];exact dx);have HSr:Hid _:=aR (P:=Tryz.prog) (T:=61) (V:=D) K6q.out (by rw [hV];exact dx) (by rw [hV,aS]) hone;have e1:=aH (V:=D) K6q.out (by rw [hV,aS]);have e2:=aJ (show w.heap.size<=w.heap.size+1 by omega) (D).toList 0 _ n4;have eG:=aG (w.heap.size+1) (D).toList 0 v4 v4 (ak v4 _);go_wp2_with (first
   | ((with_reducible refine aZ ?_ HLr.out ?_);(exact rfl))
   | ((with_reducible refine ax ?_ ?_ HSr.out ?_);(exact rfl);(exact rfl)))
  refine dE (b:=w.heap.size+1) Tryz.results127 rfl (bE (P:=Tryz.prog) e1 Tryz.underlying61 rfl (by rw [hV];exact dx)) rfl ?_;rw [HM1.out];exact ⟨⟨yw p g2 cap2,by rw [HV.out],RunIn.reg (rs:=r.h.regs) HI.out e2 (by rw [hN];exact (OwnC.gb O4.out eG (by omega)).row) (by rw [hN];exact ⟨hNc,HM2.out⟩) (OwnC.facts (OwnC.gb O4.out eG (show g2≠w.heap.size+1 by omega))).2.2.1,uN (by omega)⟩,e2⟩
end Go.Proofs.YtkenjknmfhoppaaGreat
