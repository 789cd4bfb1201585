import Derived.Test.YthdgiakgepmabaaGreatDk06
import Derived.Deep.DeepCutAuto
import Derived.Deep.MidRow
import Derived.OrdersHeld
namespace Go.Proofs.YthdgiakgepmabaaGreat
open Go.RowKit
set_option linter.unusedVariables false
set_option maxHeartbeats 6400000
set_option maxRecDepth 20000
def iw (zs:List Int):Prop:=∀i:Nat,0<=zs[i]?.getD 0∧zs[i]?.getD 0<=255
def rJ (zs:List Int):Prop:=∀i:Nat,0<=zs[i]?.getD 0∧zs[i]?.getD 0<=18446744073709551615
def inU (x:Int):Prop:=0<=x∧x<=18446744073709551615
def kOk (k:KM):Prop:=fQ k.i∧fQ k.d∧fQ k.p
structure HOk (h:HartM):Prop where
 valid:rn h=true
 mem:iw h.mem
 regs:rJ h.regs
 pc:inU h.pc
 satp:inU h.satp
 tvec:inU h.tvec
 epc:inU h.epc
 tval:inU h.tval
 ks:kOk h.k
structure ROk (r:RunM):Prop where
 h:HOk r.h
 cause:0<=r.cause∧r.cause<=63
 tval:inU r.tval
 looks:∀l∈r.looks,(0<=l.1∧l.1<=2)∧inU l.2
 fva:inU r.fence.va
 fas:inU r.fence.asid
structure VH (h:HartM):Prop where
 size:ez h.mem.length=true
 regs:h.regs.length=8
 zero:h.regs[0]?.getD 0=0
 mode:0<=h.mode∧h.mode<=2
 emode:0<=h.emode∧h.emode<=2
 satp:de h.satp=true
 tvec:h.tvec%4=0
 cause:0<=h.cause∧h.cause<=63
 ks:cz h.k=true
theorem dQ (h:HartM):rn h=true↔VH h:=by
 simp only [rn,iB,Bool.and_eq_true,decide_eq_true_eq,beq_iff_eq];constructor
 ·rintro ⟨⟨a,⟨⟨⟨⟨⟨⟨b,c⟩,d⟩,e⟩,f⟩,g⟩,i⟩⟩,j⟩;exact ⟨a,b,c,d,e,f,g,i,j⟩
 ·rintro ⟨a,b,c,d,e,f,g,i,j⟩;exact ⟨⟨a,⟨⟨⟨⟨⟨⟨b,c⟩,d⟩,e⟩,f⟩,g⟩,i⟩⟩,j⟩
theorem HOk.v {h:HartM} (k:HOk h):VH h:=(dQ h).1 k.valid
theorem iy {n:Nat} (h:ez n=true):n%64=0∧64<=n∧n<=4096:=by simpa [ez] using h
theorem CR (pte level va:Int):inU (fH pte level va):=by
 have hp:0<=dA pte∧dA pte<17592186044416:=by unfold dA;omega
 unfold fH gV inU;split
 ·omega
 ·split
  ·omega
  ·split <;> omega
theorem rK (kind:Int):0<=eU kind∧eU kind<=63:=by unfold eU;split;omega;split <;> omega
theorem rL (kind:Int):0<=bO kind∧bO kind<=63:=by unfold bO;split;omega;split <;> omega
theorem wO (pte level mode:Int) (sum mxr:Bool) (kind va:Int):(0<=(fT pte level mode sum mxr kind va).1∧(fT pte level mode sum mxr kind va).1<=63)∧inU (fT pte level mode sum mxr kind va).2:=by
 unfold fT;split
 ·exact ⟨⟨by simp,by simp⟩,CR _ _ _⟩
 ·exact ⟨rK kind,by simp [inU]⟩
theorem rM (r:Int × Int × Int × List aP) (mode:Int) (sum mxr:Bool) (kind va:Int):(0<=(cK r mode sum mxr kind va).1∧(cK r mode sum mxr kind va).1<=63)∧inU (cK r mode sum mxr kind va).2:=by
 unfold cK;split
 ·exact ⟨rK kind,by simp [inU]⟩
 ·split
  ·exact ⟨rL kind,by simp [inU]⟩
  ·exact wO _ _ _ _ _ _ _
theorem AZ (zs:List Int) (mode:Int) (sum mxr:Bool) (satp kind va:Int) (hv:inU va):(0<=(fP zs mode sum mxr satp kind va).1∧(fP zs mode sum mxr satp kind va).1<=63)∧inU (fP zs mode sum mxr satp kind va).2:=by
 unfold fP;split
 ·exact ⟨⟨by simp,by simp⟩,by simp [inU]⟩
 ·split
  ·exact ⟨⟨by simp,by simp⟩,hv⟩
  ·exact rM _ _ _ _ _ _
theorem wP (zs:List Int) (mode:Int) (sum mxr:Bool) (satp:Int) (k:KM) (kind va pick:Int) (hz:iw zs) (hk:kOk k) (hv:inU va):
 kOk (bZ zs mode sum mxr satp k kind va pick).2∧(0<=(bZ zs mode sum mxr satp k kind va pick).1.1∧(bZ zs mode sum mxr satp k kind va pick).1.1<=63)∧inU (bZ zs mode sum mxr satp k kind va pick).1.2:=by
 unfold bZ;by_cases hb:cz k=false∨kind<0∨2<kind∨mode<0∨2<mode∨pick<0∨255<pick
 ·rw [if_pos hb];have h0:fQ ey:=⟨fun e he=>absurd he (by simp [ey]),by simp [ey],by simp [ey],by simp [ey]⟩;exact ⟨⟨h0,h0,h0⟩,⟨by simp,by simp⟩,by simp [inU]⟩
 ·rw [if_neg hb];have hg:cz k=true:=by
   cases hh:cz k
   ·exact absurd (.inl hh) hb
   ·rfl
  split
  ·exact ⟨hk,⟨by simp,by simp⟩,hv⟩
  ·split
   ·exact ⟨hk,rK kind,by simp [inU]⟩
   ·split
    ·have:=wO (bX (eY k kind) va (aN satp)).2.2.2 (bX (eY k kind) va (aN satp)).2.2.1 mode sum mxr kind va;exact ⟨hk,this.1,this.2⟩
    ·simp only;have hgp:aY k.p true=true:=by simp only [cz,Bool.and_eq_true] at hg;exact hg.2
     obtain ⟨_,_,hl⟩:=vM zs satp va k.p (aN satp) hgp hk.2.2.1 hz;have ha:=rM (aX zs satp va (bX k.p va (aN satp))) mode sum mxr kind va;have hp:=An va satp pick _ k.p hk.2.2 hl.recs;refine ⟨?_,ha.1,ha.2⟩;have ht:fQ (eY k kind):=by unfold eY;split;exact hk.1;exact hk.2.1
     have hi:=ue pick ht (Am (aX zs satp va (bX k.p va (aN satp))).2.1 va satp (aX zs satp va (bX k.p va (aN satp))).2.2.1 hl.level hl.pte);split
     ·unfold vU;split
      ·exact ⟨hi,hk.2.1,hp⟩
      ·exact ⟨hk.1,hi,hp⟩
     ·exact ⟨hk.1,hk.2.1,hp⟩
theorem jk {h:HartM} (hh:HOk h) (plain:Bool) {pick kind va:Int} (hp:0<=pick∧pick<=255) (hk:0<=kind∧kind<=2) (hv:inU va):
 HOk (withK h (aT plain pick h kind va).2)∧(0<=(aT plain pick h kind va).1.1∧(aT plain pick h kind va).1.1<=63)∧inU (aT plain pick h kind va).1.2:=by
 have v:=hh.v;cases plain
 ·have e:aT false pick h kind va=bZ h.mem h.mode h.sum h.mxr h.satp h.k kind va pick:=rfl;rw [e];obtain ⟨t1,t2,t3⟩:=wP h.mem h.mode h.sum h.mxr h.satp h.k kind va pick hh.mem hh.ks hv;have tg:=tf h.mem h.mode h.sum h.mxr h.satp h.k kind va pick v.ks hk v.mode hp;refine ⟨⟨(dQ _).2 ⟨v.size,v.regs,v.zero,v.mode,v.emode,v.satp,v.tvec,v.cause,tg⟩,hh.mem,hh.regs,hh.pc,hh.satp,hh.tvec,hh.epc,hh.tval,t1⟩,t2,t3⟩
 ·have e:aT true pick h kind va=(fP h.mem h.mode h.sum h.mxr h.satp kind va,h.k):=rfl;rw [e];have:=AZ h.mem h.mode h.sum h.mxr h.satp kind va hv;exact ⟨hh,this.1,this.2⟩
theorem jm {r:RunM} (hr:ROk r) (plain:Bool) {pick kind va:Int} (hp:0<=pick∧pick<=255) (hk:0<=kind∧kind<=2) (hv:inU va):ROk (bf plain pick r kind va):=by
 refine ⟨(jk hr.h plain hp hk hv).1,hr.cause,hr.tval,?_,hr.fva,hr.fas⟩;intro l hl;rcases List.mem_append.1 hl with hl | hl
 ·exact hr.looks l hl
 ·rw [List.mem_singleton] at hl;subst hl;exact ⟨hk,hv⟩
theorem iE {r:RunM} (hr:ROk r) {c t:Int} (hc:0<=c∧c<=63) (ht:inU t):ROk (bI r c t):=⟨hr.h,hc,ht,hr.looks,hr.fva,hr.fas⟩
def dZ (ps:List bw):Prop:=∀p∈ps,inU p.1∧(1<=p.2.1∧p.2.1<=8)∧inU p.2.2
theorem rN (va w:Int) (hv:inU va) (hw:1<=w∧w<=8):dZ (cD va w):=by
 unfold inU at hv;unfold cD;split
 ·intro p hp;simp only [List.mem_cons,List.not_mem_nil,or_false] at hp;rcases hp with rfl | rfl
  ·exact ⟨hv,by simp only;omega,by simp [inU]⟩
  ·exact ⟨by simp only [inU];omega,by simp only;omega,by simp [inU]⟩
 ·intro p hp;simp only [List.mem_singleton] at hp;subst hp;exact ⟨hv,hw,by simp [inU]⟩
theorem fE (plain:Bool) {pick kind:Int} (hp:0<=pick∧pick<=255) (hk:0<=kind∧kind<=2):∀(ps:List bw) (r:RunM),ROk r->dZ ps->ROk (ag plain pick kind r ps).1∧dZ (ag plain pick kind r ps).2
 | [],r,hr,hs=>⟨hr,hs⟩
 | p::ps,r,hr,hs=>by
  have h1:=hs p (List.mem_cons_self ..);have hl:=jm hr plain hp hk h1.1;have ht:=jk hr.h plain hp hk h1.1;rw [ag];split
  ·have:=fE plain hp hk ps _ hl (fun q hq=>hs q (List.mem_cons_of_mem _ hq));refine ⟨this.1,fun q hq=>?_⟩;rcases List.mem_cons.1 hq with rfl | hq
   ·exact ⟨h1.1,h1.2.1,ht.2.2⟩
   ·exact this.2 q hq
  ·exact ⟨iE hl ht.2.1 h1.1,hs⟩
theorem wQ {mem:List Int}:∀{ps:List bw} {v:Int},fL mem ps=some v->∃p∈ps,p.1=v
 | p::ps,v,h=>by
  rw [fL] at h;split at h
  ·obtain ⟨q,hq,e⟩:=wQ h;exact ⟨q,List.mem_cons_of_mem _ hq,e⟩
  ·cases h;exact ⟨p,List.mem_cons_self ..,rfl⟩
theorem ic (plain:Bool) {pick kind va w:Int} {r:RunM} (hp:0<=pick∧pick<=255) (hk:0<=kind∧kind<=2) (hv:inU va) (hw:1<=w∧w<=8) (hr:ROk r):ROk (aw plain pick r kind va w).1∧dZ (aw plain pick r kind va w).2:=by
 have:=fE plain hp hk (cD va w) r hr (rN va w hv hw);unfold aw;generalize ag plain pick kind r (cD va w)=z at this |-;split
 ·split
  ·exact this
  ·rename_i v ho;obtain ⟨p,hp',e⟩:=wQ ho;exact ⟨iE this.1 (rL kind) (by rw [<-e];exact (this.2 p hp').1),this.2⟩
 ·exact this
theorem CU {zs:List Int} (h:rJ zs) (n:Nat) {x:Int} (hx:inU x):rJ (zs.set n x):=by
 intro i;rw [List.getElem?_set];split
 ·split
  ·exact hx
  ·simp
 ·exact h i
theorem F6 {h:HartM} (hr:rJ h.regs) (a:Int):inU (fO h a):=hr a.toNat
theorem ie {r:RunM} (hr:ROk r) (a:Int) {x:Int} (hx:inU x):ROk (bW r a x):=by
 have v:=hr.h.v;unfold bW;by_cases ha:0<a
 ·rw [if_pos ha];refine ⟨⟨(dQ _).2 ⟨v.size,by simp [bA,eH,v.regs],?_,v.mode,v.emode,v.satp,v.tvec,v.cause,v.ks⟩,hr.h.mem,CU hr.h.regs _ hx,hr.h.pc,hr.h.satp,hr.h.tvec,hr.h.epc,hr.h.tval,hr.h.ks⟩,hr.cause,hr.tval,hr.looks,hr.fva,hr.fas⟩;show (r.h.regs.set a.toNat x)[0]?.getD 0=0;rw [List.getElem?_set_ne (by omega)];exact v.zero
 ·rw [if_neg ha];exact hr
theorem EE {r:RunM} (hr:ROk r) {m:List Int} (hl:m.length=r.h.mem.length) (hm:iw m):ROk (bA r (dV r.h m)):=by
 have v:=hr.h.v;exact ⟨⟨(dQ _).2 ⟨by show ez m.length=true;rw [hl];exact v.size,v.regs,v.zero,v.mode,v.emode,v.satp,v.tvec,v.cause,v.ks⟩,hm,hr.h.regs,hr.h.pc,hr.h.satp,hr.h.tvec,hr.h.epc,hr.h.tval,hr.h.ks⟩,hr.cause,hr.tval,hr.looks,hr.fva,hr.fas⟩
theorem Ba {zs ys:List Int} {k:Nat} (h:iw zs) (hy:∀y∈ys,0<=y∧y<=255):iw (put zs k ys):=by
 refine bU fun z hz=>?_;unfold put at hz;rw [List.append_assoc,List.mem_append,List.mem_append] at hz;rcases hz with hz | hz | hz
 ·exact gx h z (List.mem_of_mem_take hz)
 ·exact hy z hz
 ·exact gx h z (List.mem_of_mem_drop hz)
theorem wR {mem:List Int}:∀{ps:List bw},fL mem ps=none->∀p∈ps,fD mem.length p.2.2 p.2.1=true
 | p::ps,h,q,hq=>by
  rw [fL] at h;split at h
  ·rcases List.mem_cons.1 hq with rfl | hq
   ·assumption
   ·exact wR h q hq
  ·cases h
theorem ka {plain:Bool} {pick kind va w:Int} {r:RunM} (h0:(aw plain pick r kind va w).1.cause=0):∀p∈(aw plain pick r kind va w).2,fD (aw plain pick r kind va w).1.h.mem.length p.2.2 p.2.1=true:=by
 unfold aw at h0 |-;generalize ag plain pick kind r (cD va w)=z at h0 |-;by_cases hc:z.1.cause=0
 ·rw [if_pos hc] at h0 |-;cases ho:fL z.1.h.mem z.2 with
  | none=>
   exact wR ho
  | some v=>
   rw [ho] at h0;exact absurd h0 (ir kind)
 ·rw [if_neg hc] at h0;exact absurd h0 hc
theorem zd:∀(ps:List bw) (mem b:List Int),iw mem->(∀y∈b,0<=y∧y<=255)->(∀p∈ps,fD mem.length p.2.2 p.2.1=true)->dZ ps->(iN mem ps b).length=mem.length∧iw (iN mem ps b)
 | [],mem,b,hm,hb,hi,hs=>⟨rfl,hm⟩
 | p::ps,mem,b,hm,hb,hi,hs=>by
  have h1:=hi p (List.mem_cons_self ..);have h2:=(hs p (List.mem_cons_self ..)).2;simp only [fD,decide_eq_true_eq] at h1;obtain ⟨h21,h22⟩:=h2;unfold inU at h22;have hl:(put mem p.2.2.toNat (b.take p.2.1.toNat)).length=mem.length:=Ai mem _ _ (by rw [List.length_take];omega);rw [iN];have:=zd ps (put mem p.2.2.toNat (b.take p.2.1.toNat)) (b.drop p.2.1.toNat) (Ba hm fun y hy=>hb y (List.mem_of_mem_take hy)) (fun y hy=>hb y (List.mem_of_mem_drop hy)) (fun q hq=>by rw [hl];exact hi q (List.mem_cons_of_mem _ hq)) (fun q hq=>hs q (List.mem_cons_of_mem _ hq));rw [hl] at this;exact this
theorem iW {mem:List Int} (hm:iw mem):∀(ps:List bw),∀z∈cE mem ps,0<=z∧z<=255
 | p::ps,z,hz=>by
  rw [cE,List.mem_append] at hz;rcases hz with hz | hz
  ·exact gx hm z (List.mem_of_mem_drop (List.mem_of_mem_take hz))
  ·exact iW hm ps z hz
def iF:List bw->Int
 | []=>0
 | p::ps=>p.2.1+iF ps
theorem jS (mem:List Int):∀(ps:List bw),dZ ps->((cE mem ps).length:Int)<=iF ps
 | [],_=>by simp [cE,iF]
 | p::ps,h=>by
  have h1:=(h p (List.mem_cons_self ..)).2.1;have:=jS mem ps fun q hq=>h q (List.mem_cons_of_mem _ hq);rw [cE,iF,List.length_append,List.length_take];omega
theorem lJ (plain:Bool) (pick kind:Int):∀(ps:List bw) (r:RunM),iF (ag plain pick kind r ps).2=iF ps
 | [],r=>rfl
 | p::ps,r=>by
  rw [ag];split
  ·rw [iF,iF,lJ plain pick kind ps _]
  ·rfl
theorem kc (plain:Bool) (pick kind va w:Int) (r:RunM):iF (aw plain pick r kind va w).2=w:=by
 have hc:iF (cD va w)=w:=by
  unfold cD;split <;> simp only [iF] <;> omega
 have:=lJ plain pick kind (cD va w) r;unfold aw;generalize ag plain pick kind r (cD va w)=z at this |-;split
 ·split <;> (rw [this,hc])
 ·rw [this,hc]
theorem CV {mem:List Int} (hm:iw mem) {ps:List bw} (hs:dZ ps) (hl:iF ps<=8):inU (iS mem ps):=by
 have h1:=jS mem ps hs;have:=lN (cE mem ps) 8 (iW hm ps) (by omega);unfold iS inU;have e:(256:Int)^8=18446744073709551616:=by decide
 omega
theorem fe (x:Int):inU (x%18446744073709551616):=by unfold inU;omega
theorem rO {t:RunM × List bw} (hr:ROk t.1) (hs:dZ t.2) (hi:∀p∈t.2,fD t.1.h.mem.length p.2.2 p.2.1=true) (x:Int) (n:Nat):ROk (cT t (bM x n)):=by
 have:=zd t.2 t.1.h.mem (bM x n) hr.h.mem (eB n x) hi hs;exact EE hr this.1 this.2
theorem kE (c:Int) (hc:0<=c):1<=iO (c%4)∧iO (c%4)<=8:=by
 unfold iO;rcases (show c%4=0∨c%4=1∨c%4=2∨c%4=3 by omega) with h | h | h | h <;> rw [h] <;> decide
theorem CX (plain:Bool) {pick ea w a:Int} {r:RunM} (hp:0<=pick∧pick<=255) (hv:inU ea) (hw:1<=w∧w<=8) (hr:ROk r):ROk (ia plain pick r ea w a):=by
 obtain ⟨h1,h2⟩:=ic plain hp (kind:=1) (by omega) hv hw hr;have h3:=kc plain pick 1 ea w r;unfold ia;generalize aw plain pick r 1 ea w=z at h1 h2 h3 |-;split
 ·exact ie h1 a (CV h1.h.mem h2 (by omega))
 ·exact h1
theorem Bb (plain:Bool) {pick ea w x:Int} {r:RunM} (hp:0<=pick∧pick<=255) (hv:inU ea) (hw:1<=w∧w<=8) (hr:ROk r):ROk (fx plain pick r ea w x):=by
 obtain ⟨h1,h2⟩:=ic plain hp (kind:=2) (by omega) hv hw hr;have h4:=@ka plain pick 2 ea w r;unfold fx;generalize aw plain pick r 2 ea w=z at h1 h2 h4 |-;split
 ·rename_i h0;exact rO h1 h2 (h4 h0) _ _
 ·exact h1
theorem EF (plain:Bool) {pick ea a x:Int} {r:RunM} (hp:0<=pick∧pick<=255) (hv:inU ea) (hr:ROk r):ROk (lC plain pick r ea a x):=by
 obtain ⟨h1,h2⟩:=ic plain hp (kind:=2) (by omega) hv (w:=8) (by omega) hr;have h3:=kc plain pick 2 ea 8 r;have h4:=@ka plain pick 2 ea 8 r;unfold lC;generalize aw plain pick r 2 ea 8=z at h1 h2 h3 h4 |-;split
 ·rename_i h0;exact ie (rO h1 h2 (h4 h0) _ _) a (CV h1.h.mem h2 (by omega))
 ·exact h1
theorem rP {t:TlbM} {f:FenceM} (h:fQ t):fQ (gW t f):=by
 unfold gW;split
 ·refine ⟨fun e he=>?_,h.2.1,h.2.2.1,by simpa using h.2.2.2⟩;simp only [List.mem_map] at he;obtain ⟨y,hy,rfl⟩:=he;unfold cS;split
  ·simp [iH,cM]
  ·exact h.1 y hy
 ·exact h
theorem F7 (plain:Bool) {pick pc op a b c s word:Int} {r:RunM} (hp:0<=pick∧pick<=255) (hc:0<=c) (hw:inU word) (hr:ROk r):ROk (doM plain pick r pc op a b c s word):=by
 have v:=hr.h.v;have rg:=fun x=>F6 hr.h.regs x;have hea:inU (eaM r.h b s):=fe _;unfold doM;by_cases hi:bH op c r.h.mode=true
 ·rw [if_pos hi];exact iE hr (by omega) hw
 rw [if_neg hi];by_cases o1:op=1
 ·rw [if_pos o1];exact ie hr _ (fe _)
 rw [if_neg o1];by_cases o2:op=2
 ·rw [if_pos o2];exact ie hr _ (fe _)
 rw [if_neg o2];by_cases o3:op=3
 ·rw [if_pos o3];exact ie hr _ hea
 rw [if_neg o3];by_cases o4:op=4
 ·rw [if_pos o4];exact ie hr _ (fe _)
 rw [if_neg o4];by_cases o5:op=5
 ·rw [if_pos o5];exact CX plain hp hea (kE c hc) hr
 rw [if_neg o5];by_cases o6:op=6
 ·rw [if_pos o6];exact Bb plain hp hea (kE c hc) hr
 rw [if_neg o6];by_cases o7:op=7
 ·rw [if_pos o7];exact EF plain hp hea hr
 rw [if_neg o7];by_cases o8:op=8
 ·rw [if_pos o8];split
  ·exact hr
  ·exact ⟨⟨(dQ _).2 ⟨v.size,v.regs,v.zero,v.mode,v.emode,v.satp,v.tvec,v.cause,v.ks⟩,hr.h.mem,hr.h.regs,fe _,hr.h.satp,hr.h.tvec,hr.h.epc,hr.h.tval,hr.h.ks⟩,hr.cause,hr.tval,hr.looks,hr.fva,hr.fas⟩
 rw [if_neg o8];by_cases o9:op=9
 ·rw [if_pos o9];split
  ·rename_i hs;exact ⟨⟨(dQ _).2 ⟨v.size,v.regs,v.zero,v.mode,v.emode,hs,v.tvec,v.cause,v.ks⟩,hr.h.mem,hr.h.regs,hr.h.pc,rg a,hr.h.tvec,hr.h.epc,hr.h.tval,hr.h.ks⟩,hr.cause,hr.tval,hr.looks,hr.fva,hr.fas⟩
  ·exact hr
 rw [if_neg o9];by_cases o10:op=10
 ·rw [if_pos o10];exact ⟨⟨(dQ _).2 ⟨v.size,v.regs,v.zero,v.mode,v.emode,v.satp,v.tvec,v.cause,v.ks⟩,hr.h.mem,hr.h.regs,hr.h.pc,hr.h.satp,hr.h.tvec,hr.h.epc,hr.h.tval,hr.h.ks⟩,hr.cause,hr.tval,hr.looks,hr.fva,hr.fas⟩
 rw [if_neg o10];by_cases o11:op=11
 ·rw [if_pos o11];have rb:=rg b;have hfas:inU (jQ r.h a b).asid:=by unfold inU at rb |-;show 0<=fO r.h b%65536∧fO r.h b%65536<=_;omega
  cases plain
  ·exact ⟨⟨(dQ _).2 ⟨v.size,v.regs,v.zero,v.mode,v.emode,v.satp,v.tvec,v.cause,qJ _ _ v.ks⟩,hr.h.mem,hr.h.regs,hr.h.pc,hr.h.satp,hr.h.tvec,hr.h.epc,hr.h.tval,rP hr.h.ks.1,rP hr.h.ks.2.1,rP hr.h.ks.2.2⟩,hr.cause,hr.tval,hr.looks,rg a,hfas⟩
  ·exact ⟨hr.h,hr.cause,hr.tval,hr.looks,rg a,hfas⟩
 rw [if_neg o11];by_cases o12:op=12
 ·rw [if_pos o12];exact ⟨⟨(dQ _).2 ⟨v.size,v.regs,v.zero,v.emode,v.emode,v.satp,v.tvec,v.cause,v.ks⟩,hr.h.mem,hr.h.regs,fe _,hr.h.satp,hr.h.tvec,hr.h.epc,hr.h.tval,hr.h.ks⟩,hr.cause,hr.tval,hr.looks,hr.fva,hr.fas⟩
 rw [if_neg o12];by_cases o13:op=13
 ·rw [if_pos o13];have hc2:c<=2:=by
   simp only [bH,Bool.or_eq_true,decide_eq_true_eq,not_or] at hi;omega
  exact ⟨⟨(dQ _).2 ⟨v.size,v.regs,v.zero,v.mode,⟨hc,hc2⟩,v.satp,v.tvec,v.cause,v.ks⟩,hr.h.mem,hr.h.regs,hr.h.pc,hr.h.satp,hr.h.tvec,rg a,hr.h.tval,hr.h.ks⟩,hr.cause,hr.tval,hr.looks,hr.fva,hr.fas⟩
 rw [if_neg o13];have hmd:=v.mode;by_cases o14:op=14
 ·rw [if_pos o14];exact iE hr (by omega) (by simp [inU])
 rw [if_neg o14];exact iE hr (by omega) hw
theorem pJ {r:RunM} (hr:ROk r):ROk (bA r (dL r.h ((r.h.pc+4)%18446744073709551616))):=by
 have v:=hr.h.v;exact ⟨⟨(dQ _).2 ⟨v.size,v.regs,v.zero,v.mode,v.emode,v.satp,v.tvec,v.cause,v.ks⟩,hr.h.mem,hr.h.regs,fe _,hr.h.satp,hr.h.tvec,hr.h.epc,hr.h.tval,hr.h.ks⟩,hr.cause,hr.tval,hr.looks,hr.fva,hr.fas⟩
theorem EG (plain:Bool) {pick x:Int} {r:RunM} (hp:0<=pick∧pick<=255) (hx:inU x) (hr:ROk r):ROk (gE plain pick r x):=by
 have hr':=pJ hr;unfold gE eT;generalize bA r (dL r.h ((r.h.pc+4)%18446744073709551616))=y at hr' |-;exact F7 plain hp (by omega) hx hr'
theorem wS (plain:Bool) {pick:Int} {r:RunM} (hp:0<=pick∧pick<=255) (hr:ROk r):ROk (cY plain pick r):=by
 have ht:=jk hr.h plain hp (kind:=0) (by omega) hr.h.pc;have hl:=jm hr plain hp (kind:=0) (by omega) hr.h.pc;have hx:inU (iP plain pick r.h):=nH _ _ 4 (by omega) hr.h.mem;unfold cY;generalize bf plain pick r 0 r.h.pc=z at hl |-;split
 ·split
  ·split
   ·exact EG plain hp hx hl
   ·exact iE hl (by omega) hr.h.pc
  ·exact iE hl ht.2.1 hr.h.pc
 ·exact iE hr (by omega) hr.h.pc
theorem kd {t:TlbM} {n:Int} (h:fQ t):fQ (bh t n):=by
 refine ⟨fun e he=>?_,h.2.1,h.2.2.1,by simpa [bh] using h.2.2.2⟩;rcases List.mem_or_eq_of_mem_set he with he | rfl
 ·exact h.1 e he
 ·simp [iH,cM]
theorem ke (plain:Bool) (pick:Int) {h:HartM} (hh:HOk h):ROk (bx plain pick h):=by
 have v:=hh.v;refine ⟨⟨(dQ _).2 ⟨v.size,v.regs,v.zero,v.mode,v.emode,v.satp,v.tvec,v.cause,sU plain pick _ v.ks⟩,hh.mem,hh.regs,hh.pc,hh.satp,hh.tvec,hh.epc,hh.tval,?_⟩,⟨by simp [bx],by simp [bx]⟩,by simp [bx,inU],fun l hl=>by simp [bx] at hl,by simp [bx,eQ,inU],by simp [bx,eQ,inU]⟩;show kOk (eR plain pick h.k);unfold eR;split
 ·exact ⟨kd hh.ks.1,kd hh.ks.2.1,kd hh.ks.2.2⟩
 ·exact hh.ks
theorem oJ (plain:Bool) {pick:Int} {h:HartM} (hp:0<=pick∧pick<=255) (hh:HOk h):ROk (bT plain pick h):=by
 have hb:=wS plain hp (ke plain pick hh);have v:=hh.v;have vb:=hb.h.v;unfold bT kX;generalize cY plain pick (bx plain pick h)=z at hb vb |-;split
 ·exact hb
 ·exact ⟨⟨(dQ _).2 ⟨v.size,v.regs,v.zero,by simp [bA,dm],v.mode,v.satp,v.tvec,hb.cause,vb.ks⟩,hh.mem,hh.regs,hh.tvec,hh.satp,hh.tvec,hh.pc,hb.tval,hb.h.ks⟩,hb.cause,hb.tval,hb.looks,hb.fva,hb.fas⟩
section
attribute [local go_sem ↓] Go.wp_at_zero Go.wp_at_succ
def vy (f:FenceM):Value:=.agg #[.bool f.hasVa,VU f.va,.bool f.hasAsid,VU f.asid]
theorem vH (f:FenceM) (level tag asid:Int) (glob:Bool) (w:World) (h0:0<=f.va) (h1:f.va<=18446744073709551615) (hl0:0<=level) (hl2:level<=2):
 Calls Tryz.prog 42 #[vy f,VI level,VU tag,VU asid,.bool glob] w fun e w'=>e=.returned (.bool (eD f level tag asid glob))∧Bw w w':=by
 obtain ⟨hv,va,ha,fa⟩:=f;simp only at h0 h1;unfold vy;simp only;have n1:=(Below.refl w.heap.size w).alloc nle (Obj.cells #[.bool hv,VU va,.bool ha,VU fa] 52);obtain ⟨cn,hcn⟩:∃cn,cR va=cn:=⟨_,rfl⟩;obtain ⟨tv,htv⟩:∃tv,dP va level=tv:=⟨_,rfl⟩;have HC:Hid (∀w:World,Calls Tryz.prog 35 #[VU va] w fun e w'=>e=.returned (.bool cn)∧∃n,w'=w.drewN n):=fun w=>by
  have:=fM va w h0 h1;rw [hcn] at this;exact this
 have HT:Hid (∀w:World,Calls Tryz.prog 38 #[VU va,VI level] w fun e w'=>e=.returned (VU tv)∧∃n,w'=w.drewN n):=fun w=>by
  have:=sK va level w h0 h1 hl0 hl2;rw [htv] at this;exact this
 obtain ⟨R,hR⟩:∃R,eD ⟨hv,va,ha,fa⟩ level tag asid glob=R:=⟨_,rfl⟩;rw [hR];have HR:Hid (R=(!(hv && (!cn || tag != tv)) && (!ha || (!glob && asid == fa)))):=by
  show _=_;rw [<-hR,<-hcn,<-htv];rfl
 clear hR hcn htv;cases hv
 ·cases ha <;> cases glob;all_goals
   go_enter Tryz.func42,Tryz.ntmps42;go_wp2;go_ret;exact ⟨aL (by rw [HR.out];simp),n1⟩
 ·cases cn
  ·go_enter Tryz.func42,Tryz.ntmps42;go_wp2_with (go_at_call 35;refine (HC.out _).mono ?_;rintro e w' ⟨rfl,nq,rfl⟩);go_ret;exact ⟨aL (by rw [HR.out];simp),below_drewN n1 _⟩
  ·cases ht:(tag != tv)
   ·cases ha <;> cases glob;all_goals
     go_enter Tryz.func42,Tryz.ntmps42;go_wp2_with (first
      | (go_at_call 35;refine (HC.out _).mono ?_;rintro e w' ⟨rfl,nq,rfl⟩)
      | (go_at_call 38;refine (HT.out _).mono ?_;rintro e w' ⟨rfl,nr,rfl⟩))
     go_ret;exact ⟨aL (by rw [HR.out,ht];simp),below_drewN n1 (nq+nr)⟩
   ·go_enter Tryz.func42,Tryz.ntmps42;go_wp2_with (first
     | (go_at_call 35;refine (HC.out _).mono ?_;rintro e w' ⟨rfl,nq,rfl⟩)
     | (go_at_call 38;refine (HT.out _).mono ?_;rintro e w' ⟨rfl,nr,rfl⟩))
    go_ret;exact ⟨aL (by rw [HR.out,ht];simp),below_drewN n1 (nq+nr)⟩
end
section
attribute [local go_sem ↓] Go.wp_at_zero Go.wp_at_succ
def dg (f:FenceM) (k:Nat) (es:List EntM):List EntM:=(es.take k).map (cS f)++es.drop k
theorem xJ (f:FenceM) (k:Nat) (es:List EntM):(dg f k es).length=es.length:=by
 simp [dg];omega
theorem vh (f:FenceM) (k:Nat) (es:List EntM) (x:EntM) (hx:es[k]?=some x):dg f (k+1) es=(dg f k es).set k (cS f x):=by
 obtain ⟨hk,rfl⟩:=List.getElem?_eq_some_iff.1 hx;unfold dg;apply List.ext_getElem?;intro j;rw [List.getElem?_set];by_cases hj:k=j
 ·subst hj;rw [if_pos rfl,if_pos (by simp;omega),List.getElem?_append_left (by simp;omega)];simp [hk]
 ·rw [if_neg hj];by_cases hlt:j<k
  ·rw [List.getElem?_append_left (by simp;omega),List.getElem?_append_left (by simp;omega)];simp [hlt,show j<k+1 by omega]
  ·rw [List.getElem?_append_right (by simp;omega),List.getElem?_append_right (by simp;omega)];simp;rw [show min (k+1) es.length=k+1 by omega,show min k es.length=k by omega];congr 1;omega
end
section
attribute [local go_sem ↓] Go.wp_at_zero Go.wp_at_succ
theorem TlbOwn.drew {base:Nat} {w:World} {v:Value} {t:TlbM} (h:TlbOwn base w v t):TlbOwn base w.drew v t:=h
theorem sA (es:List EntM) (first:Nat):∀(left w k:Nat),k<left->(∀j,j<k->(es[first+(w+j)]?.getD cM).valid=true)->(es[first+(w+k)]?.getD cM).valid=false->mg es first w left=some (w+k)
 | 0,w,k,h,_,_=>by omega
 | left+1,w,0,h,h1,h2=>by
  rw [mg,if_pos (by simpa using h2)];rfl
 | left+1,w,k+1,h,h1,h2=>by
  rw [mg,if_neg (by have:=h1 0 (by omega);simp at this;rw [this];simp)];rw [sA es first left (w+1) k (by omega) (fun j hj=>by rw [show w+1+j=w+(j+1) by omega];exact h1 (j+1) (by omega)) (by rw [show w+1+k=w+(k+1) by omega];exact h2)];congr 1;omega
theorem sB (es:List EntM) (first:Nat):∀(left w:Nat),(∀j,j<left->(es[first+(w+j)]?.getD cM).valid=true)->mg es first w left=none
 | 0,w,h=>rfl
 | left+1,w,h=>by
  rw [mg,if_neg (by have:=h 0 (by omega);simp at this;rw [this];simp)];exact sB es first left (w+1) (fun j hj=>by rw [show w+1+j=w+(j+1) by omega];exact h (j+1) (by omega))
end
section
attribute [local go_sem ↓] Go.wp_at_zero Go.wp_at_succ
theorem jz {v:World} {p:Nat} {T:TypeId} {a b c d e f g h i:Value} (hh:v.heap[p]?=some (.cells #[a,b,c,d,e,f,g,h,i] T (0,0))):
 v.cell? (AD p 0)=some a∧v.cell? (AD p 1)=some b∧v.cell? (AD p 2)=some c∧v.cell? (AD p 3)=some d∧v.cell? (AD p 4)=some e∧v.cell? (AD p 5)=some f∧v.cell? (AD p 6)=some g∧v.cell? (AD p 7)=some h∧v.cell? (AD p 8)=some i:=by
 simp [World.cell?,hh]
theorem Hs {B:Nat} {a w:World} {g:Nat} (h:Below B a w) (hg:B<=g) (x y z u v t:Value):Below B a ((((((w.setCell (AD g 0) x).setCell (AD g 1) y).setCell (AD g 2) z).setCell (AD g 3) u).setCell (AD g 4) v).setCell (AD g 5) t):=
 (((kz h hg x y z).setCell (p:=(AD g 3)) hg u).setCell (p:=(AD g 4)) hg v).setCell (p:=(AD g 5)) hg t
theorem Gj {B:Nat} {a w:World} {g:Nat} (h:Below B a w) (hg:B<=g) (x y z u v t p q r:Value):Below B a (((((((((w.setCell (AD g 0) x).setCell (AD g 1) y).setCell (AD g 2) z).setCell (AD g 3) u).setCell (AD g 4) v).setCell (AD g 5) t).setCell (AD g 6) p).setCell (AD g 7) q).setCell (AD g 8) r):=
 (((Hs h hg x y z u v t).setCell (p:=(AD g 6)) hg p).setCell (p:=(AD g 7)) hg q).setCell (p:=(AD g 8)) hg r
theorem gb9 (w:World) (g:Nat) (x y z u v t p q r:Value):w.grownBy (((((((((w.setCell (AD g 0) x).setCell (AD g 1) y).setCell (AD g 2) z).setCell (AD g 3) u).setCell (AD g 4) v).setCell (AD g 5) t).setCell (AD g 6) p).setCell (AD g 7) q).setCell (AD g 8) r) (some g):=
 au (au (au (au (au (au (au (au (au (ao w (some g)) 0 x) 1 y) 2 z) 3 u) 4 v) 5 t) 6 p) 7 q) 8 r
theorem um {v:World} {p:Nat} {T:TypeId} {cs:Array Value} (hh:v.heap[p]?=some (.cells cs T (0,0))) (i:Nat):v.frozen? (AD p i)=false:=by
 simp [World.frozen?,hh]
def KAt (w:World) (v:Value) (k:KM):Prop:=
 ∃a1 c1 a2 c2 a3 c3,v=.agg #[VI k.i.sets,VI k.i.ways,.slice a1 k.i.es.length c1,VI k.d.sets,VI k.d.ways,.slice a2 k.d.es.length c2,VI k.p.sets,VI k.p.ways,.slice a3 k.p.es.length c3]∧
  TlbAt w (.agg #[VI k.i.sets,VI k.i.ways,.slice a1 k.i.es.length c1]) k.i∧TlbAt w (.agg #[VI k.d.sets,VI k.d.ways,.slice a2 k.d.es.length c2]) k.d∧TlbAt w (.agg #[VI k.p.sets,VI k.p.ways,.slice a3 k.p.es.length c3]) k.p
theorem KAt.keep {w w':World} {v:Value} {k:KM} (h:KAt w v k) (hb:Bw w w'):KAt w' v k:=by
 obtain ⟨a1,c1,a2,c2,a3,c3,rfl,h1,h2,h3⟩:=h;exact ⟨a1,c1,a2,c2,a3,c3,rfl,h1.keep hb,h2.keep hb,h3.keep hb⟩
def KOwn (base:Nat) (w:World) (v:Value) (k:KM):Prop:=
 ∃g1 c1 g2 c2 g3 c3,v=.agg #[VI k.i.sets,VI k.i.ways,SL g1 k.i.es.length c1,VI k.d.sets,VI k.d.ways,SL g2 k.d.es.length c2,VI k.p.sets,VI k.p.ways,SL g3 k.p.es.length c3]∧
  w.ownsRow base 154 6 (SL g1 k.i.es.length c1) k.i.es.length (co k.i.es)∧w.ownsRow base 154 6 (SL g2 k.d.es.length c2) k.d.es.length (co k.d.es)∧w.ownsRow base 154 6 (SL g3 k.p.es.length c3) k.p.es.length (co k.p.es)
theorem vx (v:Value) (k:KM) (w:World) (h:KAt w v k):
 Calls Tryz.prog 65 #[v] w fun e w'=>(∃x,e=.returned x∧KOwn w.heap.size w' x k)∧Bw w w':=by
 obtain ⟨a1,c1,a2,c2,a3,c3,rfl,t1,t2,t3⟩:=h;have HL1:=hid fun v (hv:Bw w v)=>nv _ _ v (t1.keep hv);have HL2:=hid fun v (hv:Bw w v)=>nv _ _ v (t2.keep hv);have HL3:=hid fun v (hv:Bw w v)=>nv _ _ v (t3.keep hv);clear t1 t2 t3;unfold TlbOwn at HL1 HL2 HL3;unfold KOwn;generalize k.i.es=e1 at *;generalize k.d.es=e2 at *;generalize k.p.es=e3 at *;generalize k.i.sets=s1 at *;generalize k.i.ways=w1 at *;generalize k.d.sets=s2 at *;generalize k.d.ways=w2 at *;generalize k.p.sets=s3 at *;generalize k.p.ways=w3 at *;obtain ⟨m1,hm1⟩:∃m,e1.length=m:=⟨_,rfl⟩;obtain ⟨m2,hm2⟩:∃m,e2.length=m:=⟨_,rfl⟩;obtain ⟨m3,hm3⟩:∃m,e3.length=m:=⟨_,rfl⟩;rw [hm1] at HL1 |-;rw [hm2] at HL2 |-;rw [hm3] at HL3 |-;clear hm1 hm2 hm3;generalize co e1=q1 at *;generalize co e2=q2 at *;generalize co e3=q3 at *;obtain ⟨v1,Ev1,n1,H1,H2,l1⟩:=al2 w #[VI s1,VI w1,.slice a1 m1 c1,VI s2,VI w2,.slice a2 m2 c2,VI s3,VI w3,.slice a3 m3 c3] #[VI 0,VI 0,SN,VI 0,VI 0,SN,VI 0,VI 0,SN] 42 42;go_enter Tryz.func65,Tryz.ntmps65;go_wp2_with fail;rw [Ev1.out];clear Ev1;have HC:=hid fun v (hv:Bw v1 v)=>jz (ae H1.out hv (by omega));obtain ⟨b0,b1,b2,b3,b4,b5,b6,b7,b8⟩:=HC.out v1 brf;have i1:w.heap.size+1≠w.heap.size:=by omega
 have i2:w.heap.size≠w.heap.size+1:=by omega
 go_region_held3 (fun w'=>w'.cell? (AD w.heap.size 0)=some (VI s1)∧w'.cell? (AD w.heap.size 1)=some (VI w1)∧w'.cell? (AD w.heap.size 2)=some (.slice a1 m1 c1)∧w'.cell? (AD w.heap.size 3)=some (VI s2)∧w'.cell? (AD w.heap.size 4)=some (VI w2)∧w'.cell? (AD w.heap.size 5)=some (.slice a2 m2 c2)∧w'.cell? (AD w.heap.size 6)=some (VI s3)∧w'.cell? (AD w.heap.size 7)=some (VI w3)∧w'.cell? (AD w.heap.size 8)=some (.slice a3 m3 c3)) (go_keep)
  (first
   | (go_at_call_of 66 (Value.agg #[VI s1,VI w1,Value.slice a1 m1 c1]);refine (HL1.out _ (bst n1 (Below.refl v1.heap.size v1).drew)).mono ?_;rintro e y1 ⟨⟨x1,rfl,g1,d1,rfl,o1⟩,n1'⟩;have my1:Bw v1 y1:=bst (Below.refl v1.heap.size v1).drew n1';have kk:=HC.out y1 my1;obtain ⟨z10,z11,z12,z13,z14,z15,z16,z17,z18⟩:=kk;have OO1:Hid _:=o1;clear o1)
   | (go_at_call_of 66 (Value.agg #[VI s2,VI w2,Value.slice a2 m2 c2]);refine (HL2.out _ (bst n1 my1)).mono ?_;rintro e y2 ⟨⟨x2,rfl,g2,d2,rfl,o2⟩,n2'⟩;have my2:Bw v1 y2:=bst my1 n2';have kk:=HC.out y2 my2;obtain ⟨z20,z21,z22,z23,z24,z25,z26,z27,z28⟩:=kk;have OO2:Hid _:=o2;clear o2;have OP1:Hid _:=aq OO1.out n2';clear OO1)
   | (go_at_call_of 66 (Value.agg #[VI s3,VI w3,Value.slice a3 m3 c3]);refine (HL3.out _ (bst n1 my2)).mono ?_;rintro e y3 ⟨⟨x3,rfl,g3,d3,rfl,o3⟩,n3'⟩;have my3:Bw v1 y3:=bst my2 n3';have kk:=HC.out y3 my3;obtain ⟨z30,z31,z32,z33,z34,z35,z36,z37,z38⟩:=kk;have OO3:Hid _:=o3;clear o3;have OP1':Hid _:=aq OP1.out n3';have OP2:Hid _:=aq OO2.out n3';clear OP1 OO2;have F3:=ah H2 my3;have ff:=um F3.out;have f0:=ff 0;have f1:=ff 1;have f2:=ff 2;have f3:=ff 3;have f4:=ff 4;have f5:=ff 5;have f6:=ff 6;have f7:=ff 7;have f8:=ff 8;have kk:=jz F3.out;obtain ⟨j0,j1,j2,j3,j4,j5,j6,j7,j8⟩:=kk;clear ff))
 go_wp2_with fail;have r1:=ltl l1 my1.size;have r2:=ltl l1 my2.size;exact bodyPost_ret (v:=.agg #[VI s1,VI w1,SL g1 m1 d1,VI s2,VI w2,SL g2 m2 d2,VI s3,VI w3,SL g3 m3 d3]) (by simp [results,Tryz.results65,go_sem,j0,j1,j2,j3,j4,j5,j6,j7,j8]) rfl
  ⟨⟨_,rfl,g1,d1,g2,d2,g3,d3,rfl,bS (aE OP1'.out (gb9 y3 (w.heap.size+1) _ _ _ _ _ _ _ _ _) l1) (Nat.le_of_lt (Nat.lt_trans (Nat.lt_succ_self _) l1)),bS (aE OP2.out (gb9 y3 (w.heap.size+1) _ _ _ _ _ _ _ _ _) r1) (by omega),bS (aE OO3.out (gb9 y3 (w.heap.size+1) _ _ _ _ _ _ _ _ _) r2) (by omega)⟩,Gj (bst n1 my3) (by omega) _ _ _ _ _ _ _ _ _⟩
theorem KOwn.at {base:Nat} {w:World} {v:Value} {k:KM} (h:KOwn base w v k) (h1:fQ k.i) (h2:fQ k.d) (h3:fQ k.p):KAt w v k:=by
 obtain ⟨g1,c1,g2,c2,g3,c3,rfl,o1,o2,o3⟩:=h;exact ⟨some (AD g1 0),c1,some (AD g2 0),c2,some (AD g3 0),c3,rfl,TlbOwn.at ⟨g1,c1,rfl,o1⟩ h1,TlbOwn.at ⟨g2,c2,rfl,o2⟩ h2,TlbOwn.at ⟨g3,c3,rfl,o3⟩ h3⟩
end
section
variable {P:Program} {ops:Array Oper} {Q:Exit->Act->World->Prop} {rest:List Oper} {a:Act}
theorem bj {d:Tmp} {T ty:TypeId} {x:Operand} {pos:String} {af:Array Edge} {w:World} {b o:Nat} {V:Value} (hx:a.eval x=PT b o) (hl:(Instr.loadAt T (PT b o)).run P w=.ok V w)
 (h:wpList P ops Q rest (a.put (some d) V) w):wpList P ops Q ({ dst:=some d,op:=.load T x,type:=ty,pos:=pos,after:=af,guard:=none }::rest) a w:=
 wpList_plain rfl fun K hK=>by
  unfold Oper.wp execOp;simp only [hx,Sem.run_bind,hl,Result.andThen_ok,Sem.run_pure];exact hK _ _ h
theorem az {T ty:TypeId} {x y:Operand} {pos:String} {af:Array Edge} {w w':World} {b o:Nat} {V:Value} (hx:a.eval x=PT b o) (hy:a.eval y=V) (hl:(Instr.storeAt T (PT b o) V).run P w=.ok () w')
 (h:wpList P ops Q rest (a.put none undef) w'):wpList P ops Q ({ dst:=none,op:=.store T x y,type:=ty,pos:=pos,after:=af,guard:=none }::rest) a w:=
 wpList_plain rfl fun K hK=>by
  unfold Oper.wp execOp;simp only [hx,hy,Sem.run_bind,hl,Result.andThen_ok,Sem.run_pure];exact hK _ _ h
end
theorem uD {w:World} {b:Nat} {C:Array Value} {t:TypeId} {fr:Nat × Nat} (hb:w.heap[b]?=some (.cells C t fr)) {o n:Nat} {L:List Value} (hL:(C.toList.drop o).take n=L):w.rangeAt b o L:=by
 intro j v hv;rw [<-hL,List.getElem?_take] at hv;split at hv
 ·rw [List.getElem?_drop] at hv;simp only [World.cell?,hb];simpa using hv
 ·cases hv
theorem eA {P:Program} {w:World} {b:Nat} {C:Array Value} {t:TypeId} {fr:Nat × Nat} (hb:w.heap[b]?=some (.cells C t fr)) {T:TypeId} {d:TypeDesc} (hu:P.underlying T=some d) (hd:d.isRow=true) {o n:Nat} (L:List Value) (hi:(P.info? T).map (·.size)=some n) (hL:(C.toList.drop o).take n=L) (hn:L.length=n):
 (Instr.loadAt T (PT b o)).run P w=.ok (.agg L.toArray) w:=
 run_loadAt_mid w b o T L d (uD hb hL) hu hd (by rw [hn];exact hi)
theorem yJ {P:Program} {w:World} {b:Nat} {C:Array Value} {t:TypeId} {fr:Nat × Nat} (hb:w.heap[b]?=some (.cells C t fr)) {T:TypeId} {d:TypeDesc} (hu:P.underlying T=some d) (hd:d.isRow=true) {o n:Nat} (L:List Value) (hi:(P.info? T).map (·.size)=some n) (hL:(C.toList.drop o).take n=L) (hn:L.length=n):
 (loadVar T (AD b o)).run P w=.ok (.agg L.toArray) w:=
 run_loadVar_mid w b o T L d (uD hb hL) hu hd (by rw [hn];exact hi)
def jG (C:Array Value) (o:Nat) (L:List Value):Array Value:=(C.toList.take o++L++C.toList.drop (o+L.length)).toArray
theorem dn (b:Nat):∀(L:List Value) (o:Nat) (w:World) (C:Array Value) (t:TypeId) (fr:Nat × Nat),w.heap[b]?=some (.cells C t fr)->o+L.length<=C.size->(w.setCells b o L).heap[b]?=some (.cells (jG C o L) t fr)
 | [],o,w,C,t,fr,h,hl=>by simp [World.setCells,jG,h]
 | v::L,o,w,C,t,fr,h,hl=>by
  simp only [List.length_cons] at hl;have h1:(w.setCell (AD b o) v).heap[b]?=some (.cells (C.setIfInBounds o v) t fr):=by
   simp [World.setCell,Array.getElem?_modify,h]
  have h2:=dn b L (o+1) _ _ t fr h1 (by simp;omega);have e:jG (C.setIfInBounds o v) (o+1) L=jG C o (v::L):=by
   unfold jG;congr 1;simp only [Array.toList_setIfInBounds,List.length_cons];have hlen:o<C.toList.length:=by simpa using (by omega:o<C.size)
   rw [List.take_add_one,List.take_set_of_le nle,List.getElem?_set_self hlen,List.drop_set_of_lt (by omega),show o+1+L.length=o+(L.length+1) by omega];simp
  rw [<-e];exact h2
theorem aH (b:Nat):∀(L:List Value) (o:Nat) (w v:World),w.grownBy v (some b)->w.grownBy (v.setCells b o L) (some b)
 | [],o,w,v,h=>h
 | x::L,o,w,v,h=>aH b L (o+1) w _ (au h o x)
theorem fq {P:Program} {w:World} {b:Nat} {C:Array Value} {t:TypeId} (hb:w.heap[b]?=some (.cells C t (0,0))) {T:TypeId} {o:Nat} {V:Array Value} (hi:(P.info? T).map (·.size)=some V.size) (hs:o+V.size<=C.size) (h1:V.all (·.oneCell')=true):
 (Instr.storeAt T (PT b o) (.agg V)).run P w=.ok () (w.setCells b o V.toList):=by
 refine run_storeAt_mid w b o T V (fun j hj=>?_) hi h1;refine ⟨?_,?_⟩
 ·have:o+j<C.size:=by omega
  simp [World.cell?,hb,this]
 ·simp [World.frozen?,hb]
theorem cf {w:World} {b:Nat} {C:Array Value} {t:TypeId} {fr:Nat × Nat} (hb:w.heap[b]?=some (.cells C t fr)) (i:Nat) (v:Value):(w.setCell (AD b i) v).heap[b]?=some (.cells (C.setIfInBounds i v) t fr):=by
 simp [World.setCell,Array.getElem?_modify,hb]
theorem ab {w:World} {b:Nat} {C:Array Value} {t:TypeId} {fr:Nat × Nat} (hb:w.heap[b]?=some (.cells C t fr)) (i:Nat) {v:Value} (hv:C[i]?=some v):w.cell? (AD b i)=some v:=by
 simp [World.cell?,hb,hv]
theorem ap {w:World} {b:Nat} {C:Array Value} {t:TypeId} (hb:w.heap[b]?=some (.cells C t (0,0))) (i:Nat):w.frozen? (AD b i)=false:=by
 simp [World.frozen?,hb]
theorem qj {w w':World} {b r:Nat} {o:Obj} (h:w.heap[b]?=some o) (hg:w.grownBy w' (some r)) (hne:b≠r):w'.heap[b]?=some o:=aA h hg hne
theorem eL {w:World} {b r:Nat} {o:Obj} (h:w.heap[b]?=some o) (i:Nat) (v:Value) (hne:b≠r):(w.setCell (AD r i) v).heap[b]?=some o:=by
 rw [<-h];simp [World.setCell,Array.getElem?_modify,Ne.symm hne]
theorem gY {w:World} {b r:Nat} {o:Obj} (h:w.heap[b]?=some o) (i:Nat) (L:List Value) (hne:b≠r):(w.setCells r i L).heap[b]?=some o:=
 aA h (aH r L i w w (ao w (some r))) hne
theorem cH {B:Nat} {a w:World} {g:Nat} (h:Below B a w) (hg:B<=g) (i:Nat) (v:Value):Below B a (w.setCell (AD g i) v):=h.setCell hg _
theorem aK {B:Nat} {a:World} {g:Nat} (hg:B<=g):∀(L:List Value) (o:Nat) (w:World),Below B a w->Below B a (w.setCells g o L)
 | [],o,w,h=>h
 | x::L,o,w,h=>aK hg L (o+1) _ (h.setCell hg _)
theorem cF (b:Nat):∀(L:List Value) (o:Nat) (w:World),(w.setCells b o L).heap.size=w.heap.size
 | [],o,w=>rfl
 | x::L,o,w=>by
  rw [World.setCells,cF b L (o+1)];simp
theorem Eg (C V:Array Value) (h:V.size=C.size):jG C 0 V.toList=V:=by
 unfold jG;rw [List.take_zero,List.drop_of_length_le (by simp [h])];simp
theorem aW {P:Program} {w:World} {b:Nat} {C:Array Value} {t:TypeId} {fr:Nat × Nat} (hb:w.heap[b]?=some (.cells C t fr)) {T:TypeId} {d:TypeDesc} (hu:P.underlying T=some d) (hd:d.isRow=true) (hi:(P.info? T).map (·.size)=some C.size):
 (Instr.loadAt T (PT b 0)).run P w=.ok (.agg C) w:=by
 have:=eA (P:=P) hb hu hd (o:=0) C.toList hi (by rw [List.drop_zero,List.take_of_length_le (by simp)]) (by simp);simpa using this
theorem bC {P:Program} {w:World} {b:Nat} {C:Array Value} {t:TypeId} {fr:Nat × Nat} (hb:w.heap[b]?=some (.cells C t fr)) {T:TypeId} {d:TypeDesc} (hu:P.underlying T=some d) (hd:d.isRow=true) (hi:(P.info? T).map (·.size)=some C.size):
 (loadVar T (AD b 0)).run P w=.ok (.agg C) w:=by
 have:=yJ (P:=P) hb hu hd (o:=0) C.toList hi (by rw [List.drop_zero,List.take_of_length_le (by simp)]) (by simp);simpa using this
theorem aR {P:Program} {w:World} {b:Nat} {C V:Array Value} {t:TypeId} (hb:w.heap[b]?=some (.cells C t (0,0))) {T:TypeId} (hi:(P.info? T).map (·.size)=some V.size) (hs:V.size=C.size) (h1:V.all (·.oneCell')=true):
 (Instr.storeAt T (PT b 0) (.agg V)).run P w=.ok () (w.setCells b 0 V.toList):=
 fq hb hi (by omega) h1
theorem aI {w:World} {b:Nat} {C V:Array Value} {t:TypeId} {fr:Nat × Nat} (hb:w.heap[b]?=some (.cells C t fr)) (hs:V.size=C.size):(w.setCells b 0 V.toList).heap[b]?=some (.cells V t fr):=by
 rw [dn b V.toList 0 w C t fr hb (by simp;omega),Eg C V hs]
theorem pD {C:Array Value} (h:C.all (·.oneCell')=true) (i:Nat) {v:Value} (hv:v.oneCell'=true):(C.setIfInBounds i v).all (·.oneCell')=true:=by
 rw [Array.all_eq_true_iff_forall_mem] at h |-;intro x hx;rcases Array.mem_or_eq_of_mem_setIfInBounds hx with hx | rfl
 ·exact h x hx
 ·exact hv
theorem dE {P:Program} {fn:Func} {R:Ending->World->Prop} {a:Act} {w:World} {s:Tmp} {T:TypeId} {b:Nat} {V:Value} (hr:fn.results=#[ResultVar.cell s T]) (hs:a.tmps[s]?=some (PT b 0)) (hl:(loadVar T (AD b 0)).run P w=.ok V w) (hd:a.defers=[]) (hR:R (.returned V) w):bodyPost P fn R .ret a w:=by
 refine bodyPost_ret (v:=V) ?_ hd hR;simp [results,hr,hs,asAddr,hl]
theorem bY {e T:TypeId} {size base n pb:Nat} {w:World} {s:Value} {cs:List Value} {cur:Array Value} {q:Nat × Nat} (h:w.ownsRow base e size s n cs) (hp:w.heap[pb]?=some (.cells cur T q)) (hT:T≠e):s.ownBlock≠some pb:=by
 rcases h.2 with ⟨h1,_⟩ | ⟨g,cap,cur',h1,_,h3,_⟩
 ·rw [h1];simp [Value.ownBlock]
 ·rw [h1];simp only [Value.ownBlock];intro he;have:g=pb:=Option.some.inj he;subst this;rw [h3] at hp;cases hp;exact hT rfl
theorem cP {e T:TypeId} {size base n pb:Nat} {w w':World} {s:Value} {cs:List Value} {cur:Array Value} {q:Nat × Nat} (h:w.ownsRow base e size s n cs) (hp:w.heap[pb]?=some (.cells cur T q)) (hT:T≠e) (hg:w.grownBy w' (some pb)):w'.ownsRow base e size s n cs:=
 h.kept hg (.inr (bY h hp hT))
theorem aD {P:Program} {a:Act} {d:Option Tmp} {T ty:TypeId} {x:Operand} {pos:String} {af:Array Edge} {g:Option (Nat × Bool)} {w:World} {b o:Nat} {V:Value} (hx:a.eval x=PT b o) (hl:(Instr.loadAt T (PT b o)).run P w=.ok V w):
 (execOp a.eval { dst:=d,op:=.load T x,type:=ty,pos:=pos,after:=af,guard:=g }).run P w=.ok (.value V) w:=by
 unfold execOp;simp only [hx,Sem.run_bind,hl,Result.andThen_ok,Sem.run_pure]
end Go.Proofs.YthdgiakgepmabaaGreat
