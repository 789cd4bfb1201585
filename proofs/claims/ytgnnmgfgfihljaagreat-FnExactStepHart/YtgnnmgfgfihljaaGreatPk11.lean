import Derived.Test.YtgnnmgfgfihljaaGreatPk10
import Derived.Deep.MidRow
import Derived.OrdersHeld
namespace Go.Proofs.YtgnnmgfgfihljaaGreat
open Go.RowKit
set_option linter.unusedVariables false
set_option maxHeartbeats 6400000
set_option maxRecDepth 20000
def fk (zs:List Int):Prop:=∀i:Nat,0<=zs[i]?.getD 0∧zs[i]?.getD 0<=255
def nj (zs:List Int):Prop:=∀i:Nat,0<=zs[i]?.getD 0∧zs[i]?.getD 0<=18446744073709551615
def inU (x:Int):Prop:=0<=x∧x<=18446744073709551615
def kOk (k:KM):Prop:=eh k.i∧eh k.d∧eh k.p
structure HOk (h:HartM):Prop where
 valid:cJ h=true
 mem:fk h.mem
 regs:nj h.regs
 pc:inU h.pc
 satp:inU h.satp
 tvec:inU h.tvec
 epc:inU h.epc
 tval:inU h.tval
 ks:kOk h.k
structure ROk (r:RunM):Prop where
 h:HOk r.h
 cause:0<=r.cause∧r.cause<=63
 tval:inU r.tval
 looks:∀l∈r.looks,(0<=l.1∧l.1<=2)∧inU l.2
 fva:inU r.fence.va
 fas:inU r.fence.asid
structure VH (h:HartM):Prop where
 size:dU h.mem.length=true
 regs:h.regs.length=8
 zero:h.regs[0]?.getD 0=0
 mode:0<=h.mode∧h.mode<=2
 emode:0<=h.emode∧h.emode<=2
 satp:dE h.satp=true
 tvec:h.tvec%4=0
 cause:0<=h.cause∧h.cause<=63
 ks:bf h.k=true
theorem dH (h:HartM):cJ h=true↔VH h:=by
 simp only [cJ,fl,Bool.and_eq_true,decide_eq_true_eq,beq_iff_eq];constructor
 ·rintro ⟨⟨a,⟨⟨⟨⟨⟨⟨b,c⟩,d⟩,e⟩,f⟩,g⟩,i⟩⟩,j⟩;exact ⟨a,b,c,d,e,f,g,i,j⟩
 ·rintro ⟨a,b,c,d,e,f,g,i,j⟩;exact ⟨⟨a,⟨⟨⟨⟨⟨⟨b,c⟩,d⟩,e⟩,f⟩,g⟩,i⟩⟩,j⟩
theorem HOk.v {h:HartM} (k:HOk h):VH h:=(dH h).1 k.valid
theorem fJ {n:Nat} (h:dU n=true):n%64=0∧64<=n∧n<=4096:=by simpa [dU] using h
theorem zj (pte level va:Int):inU (eX pte level va):=by
 have hp:0<=dg pte∧dg pte<17592186044416:=by unfold dg;omega
 unfold eX fS inU;split
 ·omega
 ·split
  ·omega
  ·split <;> omega
theorem pL (kind:Int):0<=dL kind∧dL kind<=63:=by unfold dL;split;omega;split <;> omega
theorem pM (kind:Int):0<=bE kind∧bE kind<=63:=by unfold bE;split;omega;split <;> omega
theorem ub (pte level mode:Int) (sum mxr:Bool) (kind va:Int):(0<=(er pte level mode sum mxr kind va).1∧(er pte level mode sum mxr kind va).1<=63)∧inU (er pte level mode sum mxr kind va).2:=by
 unfold er;split
 ·exact ⟨⟨by simp,by simp⟩,zj _ _ _⟩
 ·exact ⟨pL kind,by simp [inU]⟩
theorem pN (r:Int × Int × Int × List dG) (mode:Int) (sum mxr:Bool) (kind va:Int):(0<=(cK r mode sum mxr kind va).1∧(cK r mode sum mxr kind va).1<=63)∧inU (cK r mode sum mxr kind va).2:=by
 unfold cK;split
 ·exact ⟨pL kind,by simp [inU]⟩
 ·split
  ·exact ⟨pM kind,by simp [inU]⟩
  ·exact ub _ _ _ _ _ _ _
theorem yb (zs:List Int) (mode:Int) (sum mxr:Bool) (satp kind va:Int) (hv:inU va):(0<=(gM zs mode sum mxr satp kind va).1∧(gM zs mode sum mxr satp kind va).1<=63)∧inU (gM zs mode sum mxr satp kind va).2:=by
 unfold gM;split
 ·exact ⟨⟨by simp,by simp⟩,by simp [inU]⟩
 ·split
  ·exact ⟨⟨by simp,by simp⟩,hv⟩
  ·exact pN _ _ _ _ _ _
theorem uc (zs:List Int) (mode:Int) (sum mxr:Bool) (satp:Int) (k:KM) (kind va pick:Int) (hz:fk zs) (hk:kOk k) (hv:inU va):
 kOk (ct zs mode sum mxr satp k kind va pick).2∧(0<=(ct zs mode sum mxr satp k kind va pick).1.1∧(ct zs mode sum mxr satp k kind va pick).1.1<=63)∧inU (ct zs mode sum mxr satp k kind va pick).1.2:=by
 unfold ct;by_cases hb:bf k=false∨kind<0∨2<kind∨mode<0∨2<mode∨pick<0∨255<pick
 ·rw [if_pos hb];have h0:eh vl:=⟨fun e he=>absurd he (by simp [vl]),by simp [vl],by simp [vl],by simp [vl]⟩;exact ⟨⟨h0,h0,h0⟩,⟨by simp,by simp⟩,by simp [inU]⟩
 ·rw [if_neg hb];have hg:bf k=true:=by
   cases hh:bf k
   ·exact absurd (.inl hh) hb
   ·rfl
  split
  ·exact ⟨hk,⟨by simp,by simp⟩,hv⟩
  ·split
   ·exact ⟨hk,pL kind,by simp [inU]⟩
   ·split
    ·have:=ub (aU (ep k kind) va (aG satp)).2.2.2 (aU (ep k kind) va (aG satp)).2.2.1 mode sum mxr kind va;exact ⟨hk,this.1,this.2⟩
    ·simp only;have hgp:aL k.p true=true:=by simp only [bf,Bool.and_eq_true] at hg;exact hg.2
     obtain ⟨_,_,hl⟩:=mD zs satp va k.p (aG satp) hgp hk.2.2.1 hz;have ha:=pN (aY zs satp va (aU k.p va (aG satp))) mode sum mxr kind va;have hp:=tf va satp pick _ k.p hk.2.2 hl.recs;refine ⟨?_,ha.1,ha.2⟩;have ht:eh (ep k kind):=by unfold ep;split;exact hk.1;exact hk.2.1
     have hi:=sj pick ht (pr (aY zs satp va (aU k.p va (aG satp))).2.1 va satp (aY zs satp va (aU k.p va (aG satp))).2.2.1 hl.level hl.pte);split
     ·unfold rJ;split
      ·exact ⟨hi,hk.2.1,hp⟩
      ·exact ⟨hk.1,hi,hp⟩
     ·exact ⟨hk.1,hk.2.1,hp⟩
theorem fY {h:HartM} (hh:HOk h) (plain:Bool) {pick kind va:Int} (hp:0<=pick∧pick<=255) (hk:0<=kind∧kind<=2) (hv:inU va):
 HOk (withK h (be plain pick h kind va).2)∧(0<=(be plain pick h kind va).1.1∧(be plain pick h kind va).1.1<=63)∧inU (be plain pick h kind va).1.2:=by
 have v:=hh.v;cases plain
 ·have e:be false pick h kind va=ct h.mem h.mode h.sum h.mxr h.satp h.k kind va pick:=rfl;rw [e];obtain ⟨t1,t2,t3⟩:=uc h.mem h.mode h.sum h.mxr h.satp h.k kind va pick hh.mem hh.ks hv;have tg:=wS h.mem h.mode h.sum h.mxr h.satp h.k kind va pick v.ks hk v.mode hp;refine ⟨⟨(dH _).2 ⟨v.size,v.regs,v.zero,v.mode,v.emode,v.satp,v.tvec,v.cause,tg⟩,hh.mem,hh.regs,hh.pc,hh.satp,hh.tvec,hh.epc,hh.tval,t1⟩,t2,t3⟩
 ·have e:be true pick h kind va=(gM h.mem h.mode h.sum h.mxr h.satp kind va,h.k):=rfl;rw [e];have:=yb h.mem h.mode h.sum h.mxr h.satp kind va hv;exact ⟨hh,this.1,this.2⟩
theorem iJ {r:RunM} (hr:ROk r) (plain:Bool) {pick kind va:Int} (hp:0<=pick∧pick<=255) (hk:0<=kind∧kind<=2) (hv:inU va):ROk (bw plain pick r kind va):=by
 refine ⟨(fY hr.h plain hp hk hv).1,hr.cause,hr.tval,?_,hr.fva,hr.fas⟩;intro l hl;rcases List.mem_append.1 hl with hl | hl
 ·exact hr.looks l hl
 ·rw [List.mem_singleton] at hl;subst hl;exact ⟨hk,hv⟩
theorem gx {r:RunM} (hr:ROk r) {c t:Int} (hc:0<=c∧c<=63) (ht:inU t):ROk (bP r c t):=⟨hr.h,hc,ht,hr.looks,hr.fva,hr.fas⟩
def dD (ps:List bI):Prop:=∀p∈ps,inU p.1∧(1<=p.2.1∧p.2.1<=8)∧inU p.2.2
theorem pO (va w:Int) (hv:inU va) (hw:1<=w∧w<=8):dD (co va w):=by
 unfold inU at hv;unfold co;split
 ·intro p hp;simp only [List.mem_cons,List.not_mem_nil,or_false] at hp;rcases hp with rfl | rfl
  ·exact ⟨hv,by simp only;omega,by simp [inU]⟩
  ·exact ⟨by simp only [inU];omega,by simp only;omega,by simp [inU]⟩
 ·intro p hp;simp only [List.mem_singleton] at hp;subst hp;exact ⟨hv,hw,by simp [inU]⟩
theorem eV (plain:Bool) {pick kind:Int} (hp:0<=pick∧pick<=255) (hk:0<=kind∧kind<=2):∀(ps:List bI) (r:RunM),ROk r->dD ps->ROk (aj plain pick kind r ps).1∧dD (aj plain pick kind r ps).2
 | [],r,hr,hs=>⟨hr,hs⟩
 | p::ps,r,hr,hs=>by
  have h1:=hs p (List.mem_cons_self ..);have hl:=iJ hr plain hp hk h1.1;have ht:=fY hr.h plain hp hk h1.1;rw [aj];split
  ·have:=eV plain hp hk ps _ hl (fun q hq=>hs q (List.mem_cons_of_mem _ hq));refine ⟨this.1,fun q hq=>?_⟩;rcases List.mem_cons.1 hq with rfl | hq
   ·exact ⟨h1.1,h1.2.1,ht.2.2⟩
   ·exact this.2 q hq
  ·exact ⟨gx hl ht.2.1 h1.1,hs⟩
theorem ud {mem:List Int}:∀{ps:List bI} {v:Int},fm mem ps=some v->∃p∈ps,p.1=v
 | p::ps,v,h=>by
  rw [fm] at h;split at h
  ·obtain ⟨q,hq,e⟩:=ud h;exact ⟨q,List.mem_cons_of_mem _ hq,e⟩
  ·cases h;exact ⟨p,List.mem_cons_self ..,rfl⟩
theorem gY (plain:Bool) {pick kind va w:Int} {r:RunM} (hp:0<=pick∧pick<=255) (hk:0<=kind∧kind<=2) (hv:inU va) (hw:1<=w∧w<=8) (hr:ROk r):ROk (aJ plain pick r kind va w).1∧dD (aJ plain pick r kind va w).2:=by
 have:=eV plain hp hk (co va w) r hr (pO va w hv hw);unfold aJ;generalize aj plain pick kind r (co va w)=z at this |-;split
 ·split
  ·exact this
  ·rename_i v ho;obtain ⟨p,hp',e⟩:=ud ho;exact ⟨gx this.1 (pM kind) (by rw [<-e];exact (this.2 p hp').1),this.2⟩
 ·exact this
theorem zk {zs:List Int} (h:nj zs) (n:Nat) {x:Int} (hx:inU x):nj (zs.set n x):=by
 intro i;rw [List.getElem?_set];split
 ·split
  ·exact hx
  ·simp
 ·exact h i
theorem Bp {h:HartM} (hr:nj h.regs) (a:Int):inU (fo h a):=hr a.toNat
theorem fZ {r:RunM} (hr:ROk r) (a:Int) {x:Int} (hx:inU x):ROk (bU r a x):=by
 have v:=hr.h.v;unfold bU;by_cases ha:0<a
 ·rw [if_pos ha];refine ⟨⟨(dH _).2 ⟨v.size,by simp [bH,dY,v.regs],?_,v.mode,v.emode,v.satp,v.tvec,v.cause,v.ks⟩,hr.h.mem,zk hr.h.regs _ hx,hr.h.pc,hr.h.satp,hr.h.tvec,hr.h.epc,hr.h.tval,hr.h.ks⟩,hr.cause,hr.tval,hr.looks,hr.fva,hr.fas⟩;show (r.h.regs.set a.toNat x)[0]?.getD 0=0;rw [List.getElem?_set_ne (by omega)];exact v.zero
 ·rw [if_neg ha];exact hr
theorem Az {r:RunM} (hr:ROk r) {m:List Int} (hl:m.length=r.h.mem.length) (hm:fk m):ROk (bH r (dF r.h m)):=by
 have v:=hr.h.v;exact ⟨⟨(dH _).2 ⟨by show dU m.length=true;rw [hl];exact v.size,v.regs,v.zero,v.mode,v.emode,v.satp,v.tvec,v.cause,v.ks⟩,hm,hr.h.regs,hr.h.pc,hr.h.satp,hr.h.tvec,hr.h.epc,hr.h.tval,hr.h.ks⟩,hr.cause,hr.tval,hr.looks,hr.fva,hr.fas⟩
theorem yc {zs ys:List Int} {k:Nat} (h:fk zs) (hy:∀y∈ys,0<=y∧y<=255):fk (put zs k ys):=by
 refine ge fun z hz=>?_;unfold put at hz;rw [List.append_assoc,List.mem_append,List.mem_append] at hz;rcases hz with hz | hz | hz
 ·exact fG h z (List.mem_of_mem_take hz)
 ·exact hy z hz
 ·exact fG h z (List.mem_of_mem_drop hz)
theorem ue {mem:List Int}:∀{ps:List bI},fm mem ps=none->∀p∈ps,fw mem.length p.2.2 p.2.1=true
 | p::ps,h,q,hq=>by
  rw [fm] at h;split at h
  ·rcases List.mem_cons.1 hq with rfl | hq
   ·assumption
   ·exact ue h q hq
  ·cases h
theorem jF {plain:Bool} {pick kind va w:Int} {r:RunM} (h0:(aJ plain pick r kind va w).1.cause=0):∀p∈(aJ plain pick r kind va w).2,fw (aJ plain pick r kind va w).1.h.mem.length p.2.2 p.2.1=true:=by
 unfold aJ at h0 |-;generalize aj plain pick kind r (co va w)=z at h0 |-;by_cases hc:z.1.cause=0
 ·rw [if_pos hc] at h0 |-;cases ho:fm z.1.h.mem z.2 with
  | none=>
   exact ue ho
  | some v=>
   rw [ho] at h0;exact absurd h0 (ik kind)
 ·rw [if_neg hc] at h0;exact absurd h0 hc
theorem zl:∀(ps:List bI) (mem b:List Int),fk mem->(∀y∈b,0<=y∧y<=255)->(∀p∈ps,fw mem.length p.2.2 p.2.1=true)->dD ps->(gn mem ps b).length=mem.length∧fk (gn mem ps b)
 | [],mem,b,hm,hb,hi,hs=>⟨rfl,hm⟩
 | p::ps,mem,b,hm,hb,hi,hs=>by
  have h1:=hi p (List.mem_cons_self ..);have h2:=(hs p (List.mem_cons_self ..)).2;simp only [fw,decide_eq_true_eq] at h1;obtain ⟨h21,h22⟩:=h2;unfold inU at h22;have hl:(put mem p.2.2.toNat (b.take p.2.1.toNat)).length=mem.length:=xx mem _ _ (by rw [List.length_take];omega);rw [gn];have:=zl ps (put mem p.2.2.toNat (b.take p.2.1.toNat)) (b.drop p.2.1.toNat) (yc hm fun y hy=>hb y (List.mem_of_mem_take hy)) (fun y hy=>hb y (List.mem_of_mem_drop hy)) (fun q hq=>by rw [hl];exact hi q (List.mem_cons_of_mem _ hq)) (fun q hq=>hs q (List.mem_cons_of_mem _ hq));rw [hl] at this;exact this
theorem gP {mem:List Int} (hm:fk mem):∀(ps:List bI),∀z∈bS mem ps,0<=z∧z<=255
 | p::ps,z,hz=>by
  rw [bS,List.mem_append] at hz;rcases hz with hz | hz
  ·exact fG hm z (List.mem_of_mem_drop (List.mem_of_mem_take hz))
  ·exact gP hm ps z hz
def gy:List bI->Int
 | []=>0
 | p::ps=>p.2.1+gy ps
theorem iC (mem:List Int):∀(ps:List bI),dD ps->((bS mem ps).length:Int)<=gy ps
 | [],_=>by simp [bS,gy]
 | p::ps,h=>by
  have h1:=(h p (List.mem_cons_self ..)).2.1;have:=iC mem ps fun q hq=>h q (List.mem_cons_of_mem _ hq);rw [bS,gy,List.length_append,List.length_take];omega
theorem jG (plain:Bool) (pick kind:Int):∀(ps:List bI) (r:RunM),gy (aj plain pick kind r ps).2=gy ps
 | [],r=>rfl
 | p::ps,r=>by
  rw [aj];split
  ·rw [gy,gy,jG plain pick kind ps _]
  ·rfl
theorem iK (plain:Bool) (pick kind va w:Int) (r:RunM):gy (aJ plain pick r kind va w).2=w:=by
 have hc:gy (co va w)=w:=by
  unfold co;split <;> simp only [gy] <;> omega
 have:=jG plain pick kind (co va w) r;unfold aJ;generalize aj plain pick kind r (co va w)=z at this |-;split
 ·split <;> (rw [this,hc])
 ·rw [this,hc]
theorem zm {mem:List Int} (hm:fk mem) {ps:List bI} (hs:dD ps) (hl:gy ps<=8):inU (gL mem ps):=by
 have h1:=iC mem ps hs;have:=pV (bS mem ps) 8 (gP hm ps) (by omega);unfold gL inU;have e:(256:Int)^8=18446744073709551616:=by decide
 omega
theorem ex (x:Int):inU (x%18446744073709551616):=by unfold inU;omega
theorem pP {t:RunM × List bI} (hr:ROk t.1) (hs:dD t.2) (hi:∀p∈t.2,fw t.1.h.mem.length p.2.2 p.2.1=true) (x:Int) (n:Nat):ROk (da t (cS x n)):=by
 have:=zl t.2 t.1.h.mem (cS x n) hr.h.mem (pl n x) hi hs;exact Az hr this.1 this.2
theorem ku (c:Int) (hc:0<=c):1<=fT (c%4)∧fT (c%4)<=8:=by
 unfold fT;rcases (show c%4=0∨c%4=1∨c%4=2∨c%4=3 by omega) with h | h | h | h <;> rw [h] <;> decide
theorem zn (plain:Bool) {pick ea w a:Int} {r:RunM} (hp:0<=pick∧pick<=255) (hv:inU ea) (hw:1<=w∧w<=8) (hr:ROk r):ROk (oL plain pick r ea w a):=by
 obtain ⟨h1,h2⟩:=gY plain hp (kind:=1) (by omega) hv hw hr;have h3:=iK plain pick 1 ea w r;unfold oL;generalize aJ plain pick r 1 ea w=z at h1 h2 h3 |-;split
 ·exact fZ h1 a (zm h1.h.mem h2 (by omega))
 ·exact h1
theorem yd (plain:Bool) {pick ea w x:Int} {r:RunM} (hp:0<=pick∧pick<=255) (hv:inU ea) (hw:1<=w∧w<=8) (hr:ROk r):ROk (kg plain pick r ea w x):=by
 obtain ⟨h1,h2⟩:=gY plain hp (kind:=2) (by omega) hv hw hr;have h4:=@jF plain pick 2 ea w r;unfold kg;generalize aJ plain pick r 2 ea w=z at h1 h2 h4 |-;split
 ·rename_i h0;exact pP h1 h2 (h4 h0) _ _
 ·exact h1
theorem AA (plain:Bool) {pick ea a x:Int} {r:RunM} (hp:0<=pick∧pick<=255) (hv:inU ea) (hr:ROk r):ROk (vn plain pick r ea a x):=by
 obtain ⟨h1,h2⟩:=gY plain hp (kind:=2) (by omega) hv (w:=8) (by omega) hr;have h3:=iK plain pick 2 ea 8 r;have h4:=@jF plain pick 2 ea 8 r;unfold vn;generalize aJ plain pick r 2 ea 8=z at h1 h2 h3 h4 |-;split
 ·rename_i h0;exact fZ (pP h1 h2 (h4 h0) _ _) a (zm h1.h.mem h2 (by omega))
 ·exact h1
theorem iL {t:TlbM} {f:FenceM} (h:eh t):eh (dW t f):=by
 unfold dW;split
 ·refine ⟨fun e he=>?_,h.2.1,h.2.2.1,by simpa using h.2.2.2⟩;simp only [List.mem_map] at he;obtain ⟨y,hy,rfl⟩:=he;unfold bT;split
  ·simp [dS,cO]
  ·exact h.1 y hy
 ·exact h
theorem Bq (plain:Bool) {pick pc op a b c s word:Int} {r:RunM} (hp:0<=pick∧pick<=255) (hc:0<=c) (hw:inU word) (hr:ROk r):ROk (doM plain pick r pc op a b c s word):=by
 have v:=hr.h.v;have rg:=fun x=>Bp hr.h.regs x;have hea:inU (eaM r.h b s):=ex _;unfold doM;by_cases hi:bQ op c r.h.mode=true
 ·rw [if_pos hi];exact gx hr (by omega) hw
 rw [if_neg hi];by_cases o1:op=1
 ·rw [if_pos o1];exact fZ hr _ (ex _)
 rw [if_neg o1];by_cases o2:op=2
 ·rw [if_pos o2];exact fZ hr _ (ex _)
 rw [if_neg o2];by_cases o3:op=3
 ·rw [if_pos o3];exact fZ hr _ hea
 rw [if_neg o3];by_cases o4:op=4
 ·rw [if_pos o4];exact fZ hr _ (ex _)
 rw [if_neg o4];by_cases o5:op=5
 ·rw [if_pos o5];exact zn plain hp hea (ku c hc) hr
 rw [if_neg o5];by_cases o6:op=6
 ·rw [if_pos o6];exact yd plain hp hea (ku c hc) hr
 rw [if_neg o6];by_cases o7:op=7
 ·rw [if_pos o7];exact AA plain hp hea hr
 rw [if_neg o7];by_cases o8:op=8
 ·rw [if_pos o8];split
  ·exact hr
  ·exact ⟨⟨(dH _).2 ⟨v.size,v.regs,v.zero,v.mode,v.emode,v.satp,v.tvec,v.cause,v.ks⟩,hr.h.mem,hr.h.regs,ex _,hr.h.satp,hr.h.tvec,hr.h.epc,hr.h.tval,hr.h.ks⟩,hr.cause,hr.tval,hr.looks,hr.fva,hr.fas⟩
 rw [if_neg o8];by_cases o9:op=9
 ·rw [if_pos o9];split
  ·rename_i hs;exact ⟨⟨(dH _).2 ⟨v.size,v.regs,v.zero,v.mode,v.emode,hs,v.tvec,v.cause,v.ks⟩,hr.h.mem,hr.h.regs,hr.h.pc,rg a,hr.h.tvec,hr.h.epc,hr.h.tval,hr.h.ks⟩,hr.cause,hr.tval,hr.looks,hr.fva,hr.fas⟩
  ·exact hr
 rw [if_neg o9];by_cases o10:op=10
 ·rw [if_pos o10];exact ⟨⟨(dH _).2 ⟨v.size,v.regs,v.zero,v.mode,v.emode,v.satp,v.tvec,v.cause,v.ks⟩,hr.h.mem,hr.h.regs,hr.h.pc,hr.h.satp,hr.h.tvec,hr.h.epc,hr.h.tval,hr.h.ks⟩,hr.cause,hr.tval,hr.looks,hr.fva,hr.fas⟩
 rw [if_neg o10];by_cases o11:op=11
 ·rw [if_pos o11];have rb:=rg b;have hfas:inU (kN r.h a b).asid:=by unfold inU at rb |-;show 0<=fo r.h b%65536∧fo r.h b%65536<=_;omega
  cases plain
  ·exact ⟨⟨(dH _).2 ⟨v.size,v.regs,v.zero,v.mode,v.emode,v.satp,v.tvec,v.cause,uU _ _ v.ks⟩,hr.h.mem,hr.h.regs,hr.h.pc,hr.h.satp,hr.h.tvec,hr.h.epc,hr.h.tval,iL hr.h.ks.1,iL hr.h.ks.2.1,iL hr.h.ks.2.2⟩,hr.cause,hr.tval,hr.looks,rg a,hfas⟩
  ·exact ⟨hr.h,hr.cause,hr.tval,hr.looks,rg a,hfas⟩
 rw [if_neg o11];by_cases o12:op=12
 ·rw [if_pos o12];exact ⟨⟨(dH _).2 ⟨v.size,v.regs,v.zero,v.emode,v.emode,v.satp,v.tvec,v.cause,v.ks⟩,hr.h.mem,hr.h.regs,ex _,hr.h.satp,hr.h.tvec,hr.h.epc,hr.h.tval,hr.h.ks⟩,hr.cause,hr.tval,hr.looks,hr.fva,hr.fas⟩
 rw [if_neg o12];by_cases o13:op=13
 ·rw [if_pos o13];have hc2:c<=2:=by
   simp only [bQ,Bool.or_eq_true,decide_eq_true_eq,not_or] at hi;omega
  exact ⟨⟨(dH _).2 ⟨v.size,v.regs,v.zero,v.mode,⟨hc,hc2⟩,v.satp,v.tvec,v.cause,v.ks⟩,hr.h.mem,hr.h.regs,hr.h.pc,hr.h.satp,hr.h.tvec,rg a,hr.h.tval,hr.h.ks⟩,hr.cause,hr.tval,hr.looks,hr.fva,hr.fas⟩
 rw [if_neg o13];have hmd:=v.mode;by_cases o14:op=14
 ·rw [if_pos o14];exact gx hr (by omega) (by simp [inU])
 rw [if_neg o14];exact gx hr (by omega) hw
theorem pQ {r:RunM} (hr:ROk r):ROk (bH r (dV r.h ((r.h.pc+4)%18446744073709551616))):=by
 have v:=hr.h.v;exact ⟨⟨(dH _).2 ⟨v.size,v.regs,v.zero,v.mode,v.emode,v.satp,v.tvec,v.cause,v.ks⟩,hr.h.mem,hr.h.regs,ex _,hr.h.satp,hr.h.tvec,hr.h.epc,hr.h.tval,hr.h.ks⟩,hr.cause,hr.tval,hr.looks,hr.fva,hr.fas⟩
theorem AB (plain:Bool) {pick x:Int} {r:RunM} (hp:0<=pick∧pick<=255) (hx:inU x) (hr:ROk r):ROk (jo plain pick r x):=by
 have hr':=pQ hr;unfold jo eQ;generalize bH r (dV r.h ((r.h.pc+4)%18446744073709551616))=y at hr' |-;exact Bq plain hp (by omega) hx hr'
theorem uf (plain:Bool) {pick:Int} {r:RunM} (hp:0<=pick∧pick<=255) (hr:ROk r):ROk (dZ plain pick r):=by
 have ht:=fY hr.h plain hp (kind:=0) (by omega) hr.h.pc;have hl:=iJ hr plain hp (kind:=0) (by omega) hr.h.pc;have hx:inU (iY plain pick r.h):=lN _ _ 4 (by omega) hr.h.mem;unfold dZ;generalize bw plain pick r 0 r.h.pc=z at hl |-;split
 ·split
  ·split
   ·exact AB plain hp hx hl
   ·exact gx hl (by omega) hr.h.pc
  ·exact gx hl ht.2.1 hr.h.pc
 ·exact gx hr (by omega) hr.h.pc
theorem iM {t:TlbM} {n:Int} (h:eh t):eh (aZ t n):=by
 refine ⟨fun e he=>?_,h.2.1,h.2.2.1,by simpa [aZ] using h.2.2.2⟩;rcases List.mem_or_eq_of_mem_set he with he | rfl
 ·exact h.1 e he
 ·simp [dS,cO]
theorem kv (plain:Bool) (pick:Int) {h:HartM} (hh:HOk h):ROk (cC plain pick h):=by
 have v:=hh.v;refine ⟨⟨(dH _).2 ⟨v.size,v.regs,v.zero,v.mode,v.emode,v.satp,v.tvec,v.cause,wP plain pick _ v.ks⟩,hh.mem,hh.regs,hh.pc,hh.satp,hh.tvec,hh.epc,hh.tval,?_⟩,⟨by simp [cC],by simp [cC]⟩,by simp [cC,inU],fun l hl=>by simp [cC] at hl,by simp [cC,ef,inU],by simp [cC,ef,inU]⟩;show kOk (fE plain pick h.k);unfold fE;split
 ·exact ⟨iM hh.ks.1,iM hh.ks.2.1,iM hh.ks.2.2⟩
 ·exact hh.ks
theorem ug (plain:Bool) {pick:Int} {h:HartM} (hp:0<=pick∧pick<=255) (hh:HOk h):ROk (ew plain pick h):=by
 have hb:=uf plain hp (kv plain pick hh);have v:=hh.v;have vb:=hb.h.v;unfold ew nW;generalize dZ plain pick (cC plain pick h)=z at hb vb |-;split
 ·exact hb
 ·exact ⟨⟨(dH _).2 ⟨v.size,v.regs,v.zero,by simp [bH,dA],v.mode,v.satp,v.tvec,hb.cause,vb.ks⟩,hh.mem,hh.regs,hh.tvec,hh.satp,hh.tvec,hh.pc,hb.tval,hb.h.ks⟩,hb.cause,hb.tval,hb.looks,hb.fva,hb.fas⟩
section
variable {P:Program} {ops:Array Oper} {Q:Exit->Act->World->Prop} {rest:List Oper} {a:Act}
theorem aI {d:Tmp} {T ty:TypeId} {x:Operand} {pos:String} {af:Array Edge} {w:World} {b o:Nat} {V:Value} (hx:a.eval x=.pointer (some ⟨b,o,none⟩)) (hl:(Instr.loadAt T (.pointer (some ⟨b,o,none⟩))).run P w=.ok V w)
 (h:wpList P ops Q rest (a.put (some d) V) w):wpList P ops Q ({ dst:=some d,op:=.load T x,type:=ty,pos:=pos,after:=af,guard:=none }::rest) a w:=
 wpList_plain rfl fun K hK=>by
  unfold Oper.wp execOp;simp only [hx,Sem.run_bind,hl,Result.andThen_ok,Sem.run_pure];exact hK _ _ h
theorem aH {T ty:TypeId} {x y:Operand} {pos:String} {af:Array Edge} {w w':World} {b o:Nat} {V:Value} (hx:a.eval x=.pointer (some ⟨b,o,none⟩)) (hy:a.eval y=V) (hl:(Instr.storeAt T (.pointer (some ⟨b,o,none⟩)) V).run P w=.ok () w')
 (h:wpList P ops Q rest (a.put none undef) w'):wpList P ops Q ({ dst:=none,op:=.store T x y,type:=ty,pos:=pos,after:=af,guard:=none }::rest) a w:=
 wpList_plain rfl fun K hK=>by
  unfold Oper.wp execOp;simp only [hx,hy,Sem.run_bind,hl,Result.andThen_ok,Sem.run_pure];exact hK _ _ h
end
theorem mS {P:Program} {ops:Array Oper} {rest:List Oper} {a:Act} {K:Act->Prop} {w0:World} {d:Tmp} {T ty:TypeId} {x:Operand} {pos:String} {af:Array Edge} {b o:Nat} {V:Value} (hx:a.eval x=.pointer (some ⟨b,o,none⟩)) (hl:∀u:Lies w0,(Instr.loadAt T (.pointer (some ⟨b,o,none⟩))).run P u.w=.ok V u.w)
 (h:wpQuiet P ops (fun w'=>∃u:Lies w0,w'=u.w) K rest (a.put (some d) V)):wpQuiet P ops (fun w'=>∃u:Lies w0,w'=u.w) K ({ dst:=some d,op:=.load T x,type:=ty,pos:=pos,after:=af,guard:=none }::rest) a:=by
 unfold wpQuiet;rw [if_pos (by simp [Region.wanted])];refine ⟨V,?_,h⟩;rintro w ⟨u,rfl⟩;unfold Oper.quietAt execOp;simp only [hx,Sem.run_bind,hl u,Result.andThen_ok,Sem.run_pure];exact ⟨rfl,rfl⟩
theorem mT {w0:World} {b:Nat} {o:Obj} (h:w0.heap[b]?=some o) (u:Lies w0):u.w.heap[b]?=some o:=
 (u.h.block b (hpl h)).trans h
theorem sH {w:World} {b:Nat} {C:Array Value} {t:TypeId} {fr:Nat × Nat} (hb:w.heap[b]?=some (.cells C t fr)) {o n:Nat} {L:List Value} (hL:(C.toList.drop o).take n=L):w.rangeAt b o L:=by
 intro j v hv;rw [<-hL,List.getElem?_take] at hv;split at hv
 ·rw [List.getElem?_drop] at hv;simp only [World.cell?,hb];simpa using hv
 ·cases hv
theorem bY {P:Program} {w:World} {b:Nat} {C:Array Value} {t:TypeId} {fr:Nat × Nat} (hb:w.heap[b]?=some (.cells C t fr)) {T:TypeId} {d:TypeDesc} (hu:P.underlying T=some d) (hd:d.isRow=true) {o n:Nat} (L:List Value) (hi:(P.info? T).map (·.size)=some n) (hL:(C.toList.drop o).take n=L) (hn:L.length=n):
 (Instr.loadAt T (.pointer (some ⟨b,o,none⟩))).run P w=.ok (.agg L.toArray) w:=
 run_loadAt_mid w b o T L d (sH hb hL) hu hd (by rw [hn];exact hi)
theorem vO {P:Program} {w:World} {b:Nat} {C:Array Value} {t:TypeId} {fr:Nat × Nat} (hb:w.heap[b]?=some (.cells C t fr)) {T:TypeId} {d:TypeDesc} (hu:P.underlying T=some d) (hd:d.isRow=true) {o n:Nat} (L:List Value) (hi:(P.info? T).map (·.size)=some n) (hL:(C.toList.drop o).take n=L) (hn:L.length=n):
 (loadVar T ⟨b,o,none⟩).run P w=.ok (.agg L.toArray) w:=
 run_loadVar_mid w b o T L d (sH hb hL) hu hd (by rw [hn];exact hi)
def iG (C:Array Value) (o:Nat) (L:List Value):Array Value:=(C.toList.take o++L++C.toList.drop (o+L.length)).toArray
theorem cQ (b:Nat):∀(L:List Value) (o:Nat) (w:World) (C:Array Value) (t:TypeId) (fr:Nat × Nat),w.heap[b]?=some (.cells C t fr)->o+L.length<=C.size->(w.setCells b o L).heap[b]?=some (.cells (iG C o L) t fr)
 | [],o,w,C,t,fr,h,hl=>by simp [World.setCells,iG,h]
 | v::L,o,w,C,t,fr,h,hl=>by
  simp only [List.length_cons] at hl;have h1:(w.setCell ⟨b,o,none⟩ v).heap[b]?=some (.cells (C.setIfInBounds o v) t fr):=by
   simp [World.setCell,Array.getElem?_modify,h]
  have h2:=cQ b L (o+1) _ _ t fr h1 (by simp;omega);have e:iG (C.setIfInBounds o v) (o+1) L=iG C o (v::L):=by
   unfold iG;congr 1;simp only [Array.toList_setIfInBounds,List.length_cons];have hlen:o<C.toList.length:=by simpa using (by omega:o<C.size)
   rw [List.take_add_one,List.take_set_of_le nle,List.getElem?_set_self hlen,List.drop_set_of_lt (by omega),show o+1+L.length=o+(L.length+1) by omega];simp
  rw [<-e];exact h2
theorem aM (b:Nat):∀(L:List Value) (o:Nat) (w v:World),w.grownBy v (some b)->w.grownBy (v.setCells b o L) (some b)
 | [],o,w,v,h=>h
 | x::L,o,w,v,h=>aM b L (o+1) w _ (ak h o x)
theorem et {P:Program} {w:World} {b:Nat} {C:Array Value} {t:TypeId} (hb:w.heap[b]?=some (.cells C t (0,0))) {T:TypeId} {o:Nat} {V:Array Value} (hi:(P.info? T).map (·.size)=some V.size) (hs:o+V.size<=C.size) (h1:V.all (·.oneCell')=true):
 (Instr.storeAt T (.pointer (some ⟨b,o,none⟩)) (.agg V)).run P w=.ok () (w.setCells b o V.toList):=by
 refine run_storeAt_mid w b o T V (fun j hj=>?_) hi h1;refine ⟨?_,?_⟩
 ·have:o+j<C.size:=by omega
  simp [World.cell?,hb,this]
 ·simp [World.frozen?,hb]
theorem cu {w:World} {b:Nat} {C:Array Value} {t:TypeId} {fr:Nat × Nat} (hb:w.heap[b]?=some (.cells C t fr)) (i:Nat) (v:Value):(w.setCell ⟨b,i,none⟩ v).heap[b]?=some (.cells (C.setIfInBounds i v) t fr):=by
 simp [World.setCell,Array.getElem?_modify,hb]
theorem aa {w:World} {b:Nat} {C:Array Value} {t:TypeId} {fr:Nat × Nat} (hb:w.heap[b]?=some (.cells C t fr)) (i:Nat) {v:Value} (hv:C[i]?=some v):w.cell? ⟨b,i,none⟩=some v:=by
 simp [World.cell?,hb,hv]
theorem aE {w:World} {b:Nat} {C:Array Value} {t:TypeId} (hb:w.heap[b]?=some (.cells C t (0,0))) (i:Nat):w.frozen? ⟨b,i,none⟩=false:=by
 simp [World.frozen?,hb]
theorem eN {w w':World} {b r:Nat} {o:Obj} (h:w.heap[b]?=some o) (hg:w.grownBy w' (some r)) (hne:b≠r):w'.heap[b]?=some o:=aQ h hg hne
theorem ba {w:World} {b r:Nat} {o:Obj} (h:w.heap[b]?=some o) (i:Nat) (v:Value) (hne:b≠r):(w.setCell ⟨r,i,none⟩ v).heap[b]?=some o:=by
 rw [<-h];simp [World.setCell,Array.getElem?_modify,Ne.symm hne]
theorem fU {w:World} {b r:Nat} {o:Obj} (h:w.heap[b]?=some o) (i:Nat) (L:List Value) (hne:b≠r):(w.setCells r i L).heap[b]?=some o:=
 aQ h (aM r L i w w (au w (some r))) hne
theorem bK {B:Nat} {a w:World} {g:Nat} (h:Below B a w) (hg:B<=g) (i:Nat) (v:Value):Below B a (w.setCell ⟨g,i,none⟩ v):=h.setCell hg _
theorem aS {B:Nat} {a:World} {g:Nat} (hg:B<=g):∀(L:List Value) (o:Nat) (w:World),Below B a w->Below B a (w.setCells g o L)
 | [],o,w,h=>h
 | x::L,o,w,h=>aS hg L (o+1) _ (h.setCell hg _)
theorem cN (b:Nat):∀(L:List Value) (o:Nat) (w:World),(w.setCells b o L).heap.size=w.heap.size
 | [],o,w=>rfl
 | x::L,o,w=>by
  rw [World.setCells,cN b L (o+1)];simp
theorem Ak (C V:Array Value) (h:V.size=C.size):iG C 0 V.toList=V:=by
 unfold iG;rw [List.take_zero,List.drop_of_length_le (by simp [h])];simp
theorem aT {P:Program} {w:World} {b:Nat} {C:Array Value} {t:TypeId} {fr:Nat × Nat} (hb:w.heap[b]?=some (.cells C t fr)) {T:TypeId} {d:TypeDesc} (hu:P.underlying T=some d) (hd:d.isRow=true) (hi:(P.info? T).map (·.size)=some C.size):
 (Instr.loadAt T (.pointer (some ⟨b,0,none⟩))).run P w=.ok (.agg C) w:=by
 have:=bY (P:=P) hb hu hd (o:=0) C.toList hi (by rw [List.drop_zero,List.take_of_length_le (by simp)]) (by simp);simpa using this
theorem bx {P:Program} {w:World} {b:Nat} {C:Array Value} {t:TypeId} {fr:Nat × Nat} (hb:w.heap[b]?=some (.cells C t fr)) {T:TypeId} {d:TypeDesc} (hu:P.underlying T=some d) (hd:d.isRow=true) (hi:(P.info? T).map (·.size)=some C.size):
 (loadVar T ⟨b,0,none⟩).run P w=.ok (.agg C) w:=by
 have:=vO (P:=P) hb hu hd (o:=0) C.toList hi (by rw [List.drop_zero,List.take_of_length_le (by simp)]) (by simp);simpa using this
theorem bB {P:Program} {w:World} {b:Nat} {C V:Array Value} {t:TypeId} (hb:w.heap[b]?=some (.cells C t (0,0))) {T:TypeId} (hi:(P.info? T).map (·.size)=some V.size) (hs:V.size=C.size) (h1:V.all (·.oneCell')=true):
 (Instr.storeAt T (.pointer (some ⟨b,0,none⟩)) (.agg V)).run P w=.ok () (w.setCells b 0 V.toList):=
 et hb hi (by omega) h1
theorem aX {w:World} {b:Nat} {C V:Array Value} {t:TypeId} {fr:Nat × Nat} (hb:w.heap[b]?=some (.cells C t fr)) (hs:V.size=C.size):(w.setCells b 0 V.toList).heap[b]?=some (.cells V t fr):=by
 rw [cQ b V.toList 0 w C t fr hb (by simp;omega),Ak C V hs]
theorem kQ {C:Array Value} (h:C.all (·.oneCell')=true) (i:Nat) {v:Value} (hv:v.oneCell'=true):(C.setIfInBounds i v).all (·.oneCell')=true:=by
 rw [Array.all_eq_true_iff_forall_mem] at h |-;intro x hx;rcases Array.mem_or_eq_of_mem_setIfInBounds hx with hx | rfl
 ·exact h x hx
 ·exact hv
theorem bL (w:World) (A:Array Value) (T:TypeId):(w.alloc (.cells A T)).heap[w.heap.size]?=some (.cells A T (0,0))∧(w.alloc (.cells A T)).heap.size=w.heap.size+1∧Below w.heap.size w (w.alloc (.cells A T)):=
 ⟨heap_alloc_new w _,by simp,(Below.refl _ _).alloc nle _⟩
theorem eu (w:World) (A B:Array Value) (T U:TypeId):((w.alloc (.cells A T)).alloc (.cells B U)).heap[w.heap.size]?=some (.cells A T (0,0))∧((w.alloc (.cells A T)).alloc (.cells B U)).heap[w.heap.size+1]?=some (.cells B U (0,0))∧((w.alloc (.cells A T)).alloc (.cells B U)).heap.size=w.heap.size+2∧Below w.heap.size w ((w.alloc (.cells A T)).alloc (.cells B U)):=by
 refine ⟨?_,?_,by simp,((Below.refl _ _).alloc nle _).alloc (by simp) _⟩
 ·rw [heap_alloc_old _ _ (by simp)];exact heap_alloc_new w _
 ·have:=heap_alloc_new (w.alloc (.cells A T)) (.cells B U);simp only [World.size_alloc] at this;exact this
theorem xj (w:World) (A B C:Array Value) (T U S:TypeId):(((w.alloc (.cells A T)).alloc (.cells B U)).alloc (.cells C S)).heap[w.heap.size]?=some (.cells A T (0,0))∧(((w.alloc (.cells A T)).alloc (.cells B U)).alloc (.cells C S)).heap[w.heap.size+1]?=some (.cells B U (0,0))∧(((w.alloc (.cells A T)).alloc (.cells B U)).alloc (.cells C S)).heap[w.heap.size+2]?=some (.cells C S (0,0))∧
 (((w.alloc (.cells A T)).alloc (.cells B U)).alloc (.cells C S)).heap.size=w.heap.size+3∧Below w.heap.size w (((w.alloc (.cells A T)).alloc (.cells B U)).alloc (.cells C S)):=by
 obtain ⟨h1,h2,h3,h4⟩:=eu w A B T U;obtain ⟨k1,k2,k3⟩:=bL ((w.alloc (.cells A T)).alloc (.cells B U)) C S;refine ⟨ae h1 k3 (by omega),ae h2 k3 (by omega),by rw [h3] at k1;exact k1,by omega,bst h4 k3⟩
theorem dx {P:Program} {fn:Func} {R:Ending->World->Prop} {a:Act} {w:World} {s:Tmp} {T:TypeId} {b:Nat} {V:Value} (hr:fn.results=#[ResultVar.cell s T]) (hs:a.tmps[s]?=some (.pointer (some ⟨b,0,none⟩))) (hl:(loadVar T ⟨b,0,none⟩).run P w=.ok V w) (hd:a.defers=[]) (hR:R (.returned V) w):bodyPost P fn R .ret a w:=by
 refine bodyPost_ret (v:=V) ?_ hd hR;simp [results,hr,hs,asAddr,hl]
theorem eg {e T:TypeId} {size base n pb:Nat} {w:World} {s:Value} {cs:List Value} {cur:Array Value} {q:Nat × Nat} (h:w.ownsRow base e size s n cs) (hp:w.heap[pb]?=some (.cells cur T q)) (hT:T≠e):s.ownBlock≠some pb:=by
 rcases h.2 with ⟨h1,_⟩ | ⟨g,cap,cur',h1,_,h3,_⟩
 ·rw [h1];simp [Value.ownBlock]
 ·rw [h1];simp only [Value.ownBlock];intro he;have:g=pb:=Option.some.inj he;subst this;rw [h3] at hp;cases hp;exact hT rfl
theorem fH {e T:TypeId} {size base n pb:Nat} {w w':World} {s:Value} {cs:List Value} {cur:Array Value} {q:Nat × Nat} (h:w.ownsRow base e size s n cs) (hp:w.heap[pb]?=some (.cells cur T q)) (hT:T≠e) (hg:w.grownBy w' (some pb)):w'.ownsRow base e size s n cs:=
 h.kept hg (.inr (eg h hp hT))
theorem bF {P:Program} {a:Act} {d:Option Tmp} {T ty:TypeId} {x:Operand} {pos:String} {af:Array Edge} {g:Option (Nat × Bool)} {w:World} {b o:Nat} {V:Value} (hx:a.eval x=.pointer (some ⟨b,o,none⟩)) (hl:(Instr.loadAt T (.pointer (some ⟨b,o,none⟩))).run P w=.ok V w):
 (execOp a.eval { dst:=d,op:=.load T x,type:=ty,pos:=pos,after:=af,guard:=g }).run P w=.ok (.value V) w:=by
 unfold execOp;simp only [hx,Sem.run_bind,hl,Result.andThen_ok,Sem.run_pure]
theorem rj {P:Program} {ops:Array Oper} {Q:Exit->Act->World->Prop} {S:World->Prop} {fuel:Nat} {listed:Array Bool} {a:Act} {w w':World} (i:Nat) {T ty:TypeId} {x y:Operand} {pos:String} {af:Array Edge} (hi:ops[i]?=some { dst:=none,op:=.store T x y,type:=ty,pos:=pos,after:=af,guard:=none }) (hr:Region.ready .any ops listed=[i])
 {b o:Nat} {V:Value} (hx:a.eval x=.pointer (some ⟨b,o,none⟩)) (hy:a.eval y=V) (hl:(Instr.storeAt T (.pointer (some ⟨b,o,none⟩)) V).run P w=.ok () w') (hS:S w') (h:wpAnyH P .any ops Q S fuel (listed.setIfInBounds i true) a w'):wpAnyH P .any ops Q S (fuel+1) listed a w:=by
 refine wpAnyH_all hr (by simp) (fun j hj=>?_);have:j=i:=by simpa using hj
 subst this;unfold wpOp;simp only [hi];rw [if_pos (by simp [Region.wanted])];refine .inl ?_;unfold Oper.wp execOp;simp only [hx,hy,Sem.run_bind,hl,Result.andThen_ok,Sem.run_pure];exact ⟨hS,h⟩
structure PtrM where
 am:Option Addr
 cm:Nat
 ar:Option Addr
 cr:Nat
 a1:Option Addr
 c1:Nat
 a2:Option Addr
 c2:Nat
 a3:Option Addr
 c3:Nat
def kA (p:PtrM) (k:KM):Array Value:=#[.int .i64 k.i.sets,.int .i64 k.i.ways,.slice p.a1 k.i.es.length p.c1,.int .i64 k.d.sets,.int .i64 k.d.ways,.slice p.a2 k.d.es.length p.c2,.int .i64 k.p.sets,.int .i64 k.p.ways,.slice p.a3 k.p.es.length p.c3]
def ah (p:PtrM) (h:HartM):Array Value:=#[.slice p.am h.mem.length p.cm,.slice p.ar h.regs.length p.cr,.int .u64 h.pc,.int .i64 h.mode,.bool h.sum,.bool h.mxr,.int .u64 h.satp,.int .u64 h.tvec,.int .u64 h.epc,.int .i64 h.emode,.int .i64 h.cause,.int .u64 h.tval,
 .int .i64 h.k.i.sets,.int .i64 h.k.i.ways,.slice p.a1 h.k.i.es.length p.c1,.int .i64 h.k.d.sets,.int .i64 h.k.d.ways,.slice p.a2 h.k.d.es.length p.c2,.int .i64 h.k.p.sets,.int .i64 h.k.p.ways,.slice p.a3 h.k.p.es.length p.c3]
def aF (p:PtrM) (al:Option Addr) (cl:Nat) (plain:Bool) (pick:Int) (r:RunM):Array Value:=#[.slice p.am r.h.mem.length p.cm,.slice p.ar r.h.regs.length p.cr,.int .u64 r.h.pc,.int .i64 r.h.mode,.bool r.h.sum,.bool r.h.mxr,.int .u64 r.h.satp,.int .u64 r.h.tvec,.int .u64 r.h.epc,.int .i64 r.h.emode,.int .i64 r.h.cause,.int .u64 r.h.tval,
 .int .i64 r.h.k.i.sets,.int .i64 r.h.k.i.ways,.slice p.a1 r.h.k.i.es.length p.c1,.int .i64 r.h.k.d.sets,.int .i64 r.h.k.d.ways,.slice p.a2 r.h.k.d.es.length p.c2,.int .i64 r.h.k.p.sets,.int .i64 r.h.k.p.ways,.slice p.a3 r.h.k.p.es.length p.c3,
 .bool plain,.int .i64 pick,.int .i64 r.cause,.int .u64 r.tval,.slice al r.looks.length cl,.bool r.fenced,.bool r.fence.hasVa,.int .u64 r.fence.va,.bool r.fence.hasAsid,.int .u64 r.fence.asid]
def ed:List (Int × Int)->List Value
 | []=>[]
 | l::ls=>.int .i64 l.1::.int .u64 l.2::ed ls
def cH (zs:List Int):List Value:=zs.map (Value.int .u64)
def aV (p:PtrM):List (Option Addr):=[p.am,p.ar,p.a1,p.a2,p.a3]
def From (B:Nat) (p p':PtrM):Prop:=∀q,some q∈aV p'->some q∈aV p∨B<=q.block
def FromL (B:Nat) (al al':Option Addr):Prop:=∀q,al'=some q->al=some q∨B<=q.block
structure HartIn (w:World) (p:PtrM) (h:HartM):Prop where
 mem:Byt w p.am h.mem.length h.mem
 memc:h.mem.length<=p.cm∧p.cm<=9223372036854775807
 regs:RowC w p.ar h.regs.length 1 (cH h.regs)
 regc:h.regs.length<=p.cr∧p.cr<=9223372036854775807
 rega:(p.ar=none->h.regs.length=0∧p.cr=0)∧∀q,p.ar=some q->q.spot=none
 ks:KAt w (.agg (kA p h.k)) h.k
 low:∀q,some q∈aV p->q.block<w.heap.size
structure RunIn (w:World) (p:PtrM) (al:Option Addr) (cl:Nat) (r:RunM):Prop where
 h:HartIn w p r.h
 looks:RowC w al r.looks.length 2 (ed r.looks)
 lookc:r.looks.length<=cl∧cl<=9223372036854775807
 looka:(al=none->r.looks.length=0∧cl=0)∧∀q,al=some q->q.spot=none
 lookl:r.looks.length<=8
 low:∀q,al=some q->q.block<w.heap.size
theorem HartIn.keep {w w':World} {p:PtrM} {h:HartM} (k:HartIn w p h) (hb:Below w.heap.size w w'):HartIn w' p h:=
 ⟨k.mem.keep hb,k.memc,k.regs.keep hb,k.regc,k.rega,k.ks.keep hb,fun q hq=>Nat.lt_of_lt_of_le (k.low q hq) hb.size⟩
theorem RunIn.keep {w w':World} {p:PtrM} {al:Option Addr} {cl:Nat} {r:RunM} (k:RunIn w p al cl r) (hb:Below w.heap.size w w'):RunIn w' p al cl r:=
 ⟨k.h.keep hb,k.looks.keep hb,k.lookc,k.looka,k.lookl,fun q hq=>Nat.lt_of_lt_of_le (k.low q hq) hb.size⟩
theorem Byt.gb' {w w':World} {a:Option Addr} {len r:Nat} {zs:List Int} (h:Byt w a len zs) (hg:w.grownBy w' (some r)) (hne:∀q,a=some q->q.block≠r):Byt w' a len zs:=by
 obtain ⟨h1,h2,h3⟩:=h;refine ⟨h1,h2,?_⟩;rcases h3 with h3 | ⟨b,off,rfl,hb,hc⟩
 ·exact .inl h3
 ·have hne':=hne ⟨b,off,none⟩ rfl;exact .inr ⟨b,off,rfl,Nat.lt_of_lt_of_le hb hg.size,fun i hi=>(World.cell?_of_block (hg.block b hb (by simpa using hne'))).trans (hc i hi)⟩
theorem TlbAt.gb' {w w':World} {t:TlbM} {a:Option Addr} {n c r:Nat} {x y:Value} (h:TlbAt w (.agg #[x,y,.slice a n c]) t) (hg:w.grownBy w' (some r)) (hne:∀q,a=some q->q.block≠r):TlbAt w' (.agg #[x,y,.slice a n c]) t:=by
 obtain ⟨a',c',he,hr,rest⟩:=h;simp only [Value.agg.injEq,Array.mk.injEq,List.cons.injEq,Value.slice.injEq,and_true] at he;obtain ⟨rfl,rfl,rfl,rfl,rfl⟩:=he;exact ⟨_,_,rfl,RowC.gb' hr hg hne,rest⟩
theorem HartIn.gb {w w':World} {p:PtrM} {h:HartM} {r:Nat} (k:HartIn w p h) (hg:w.grownBy w' (some r)) (hne:∀q,some q∈aV p->q.block≠r):HartIn w' p h:=by
 refine ⟨k.mem.gb' hg fun q hq=>hne q (by simp [aV,hq]),k.memc,RowC.gb' k.regs hg fun q hq=>hne q (by simp [aV,hq]),k.regc,k.rega,?_,fun q hq=>Nat.lt_of_lt_of_le (k.low q hq) hg.size⟩;obtain ⟨a1,c1,a2,c2,a3,c3,he,t1,t2,t3⟩:=k.ks;simp only [kA,Value.agg.injEq,Array.mk.injEq,List.cons.injEq,Value.slice.injEq,true_and,and_true] at he;obtain ⟨⟨rfl,rfl⟩,⟨rfl,rfl⟩,rfl,rfl⟩:=he;exact ⟨_,_,_,_,_,_,rfl,t1.gb' hg fun q hq=>hne q (by simp [aV,hq]),t2.gb' hg fun q hq=>hne q (by simp [aV,hq]),t3.gb' hg fun q hq=>hne q (by simp [aV,hq])⟩
theorem RunIn.gb {w w':World} {p:PtrM} {al:Option Addr} {cl r:Nat} {rm:RunM} (k:RunIn w p al cl rm) (hg:w.grownBy w' (some r)) (hne:∀q,some q∈aV p->q.block≠r) (hnl:∀q,al=some q->q.block≠r):RunIn w' p al cl rm:=
 ⟨k.h.gb hg hne,RowC.gb' k.looks hg hnl,k.lookc,k.looka,k.lookl,fun q hq=>Nat.lt_of_lt_of_le (k.low q hq) hg.size⟩
abbrev ft:Array Value:=#[.slice none 0 0,.slice none 0 0,.int .u64 0,.int .i64 0,.bool false,.bool false,.int .u64 0,.int .u64 0,.int .u64 0,.int .i64 0,.int .i64 0,.int .u64 0,.int .i64 0,.int .i64 0,.slice none 0 0,.int .i64 0,.int .i64 0,.slice none 0 0,.int .i64 0,.int .i64 0,.slice none 0 0]
abbrev dm:Array Value:=#[.slice none 0 0,.slice none 0 0,.int .u64 0,.int .i64 0,.bool false,.bool false,.int .u64 0,.int .u64 0,.int .u64 0,.int .i64 0,.int .i64 0,.int .u64 0,.int .i64 0,.int .i64 0,.slice none 0 0,.int .i64 0,.int .i64 0,.slice none 0 0,.int .i64 0,.int .i64 0,.slice none 0 0,.bool false,.int .i64 0,.int .i64 0,.int .u64 0,.slice none 0 0,.bool false,.bool false,.int .u64 0,.bool false,.int .u64 0]
theorem cZ (p:PtrM) (al:Option Addr) (cl:Nat) (plain:Bool) (pick:Int) (r:RunM):(aF p al cl plain pick r).all (·.oneCell')=true:=by
 simp [aF,Value.oneCell']
theorem hZ (p:PtrM) (h:HartM):(ah p h).all (·.oneCell')=true:=by
 simp [ah,Value.oneCell']
theorem bh (p:PtrM) (al:Option Addr) (cl:Nat) (plain:Bool) (pick:Int) (r:RunM):(aF p al cl plain pick r).size=31:=rfl
theorem fX (p:PtrM) (h:HartM):(ah p h).size=21:=rfl
theorem aR:dm.size=31:=rfl
theorem eT:ft.size=21:=rfl
theorem cR:(Tryz.prog.info? 66).map (·.size)=some 31:=by kernel_rfl
theorem dP:(Tryz.prog.info? 39).map (·.size)=some 21:=by kernel_rfl
theorem ip (p:PtrM) (al:Option Addr) (cl:Nat) (plain:Bool) (pick:Int) (r:RunM) (c t:Int) (w:World):
 Calls Tryz.prog 85 #[.agg (aF p al cl plain pick r),.int .i64 c,.int .u64 t] w fun e w'=>e=.returned (.agg (aF p al cl plain pick (bP r c t)))∧Below w.heap.size w w':=by
 have hsz:=bh p al cl plain pick r;have h1:=cZ p al cl plain pick r;have HE:Hid (((aF p al cl plain pick r).setIfInBounds 23 (.int .i64 c)).setIfInBounds 24 (.int .u64 t)=aF p al cl plain pick (bP r c t)):=rfl;have g23:(aF p al cl plain pick r)[23]?=some (.int .i64 r.cause):=rfl;have g24:(aF p al cl plain pick r)[24]?=some (.int .u64 r.tval):=rfl;generalize aF p al cl plain pick r=C at *;generalize aF p al cl plain pick (bP r c t)=D at *;have HO:=hid h1;clear h1;go_enter Tryz.func85,Tryz.ntmps85;go_upto_region 1 with fail;have F:=eu w C dm 66 66;generalize (w.alloc (Obj.cells C 66)).alloc (Obj.cells dm 66)=v1 at F |-;obtain ⟨h3,h6,l1,n1⟩:=F;have H3:Hid _:=h3;have H6:Hid _:=h6;have b1:w.heap.size<v1.heap.size:=by omega
 have f23:=aE h3 23;have f24:=aE h3 24;have c23:=aa h3 23 g23;have c24:=aa h3 24 g24;clear h3 h6;have hz:=aR;have HL:Hid ((Instr.loadAt 66 (.pointer (some ⟨w.heap.size,0,none⟩))).run Tryz.prog ((v1.setCell ⟨w.heap.size,23,none⟩ (.int .i64 c)).setCell ⟨w.heap.size,24,none⟩ (.int .u64 t))=.ok (.agg ((C.setIfInBounds 23 (.int .i64 c)).setIfInBounds 24 (.int .u64 t))) ((v1.setCell ⟨w.heap.size,23,none⟩ (.int .i64 c)).setCell ⟨w.heap.size,24,none⟩ (.int .u64 t))):=aT (cu (cu H3.out 23 _) 24 _) Tryz.underlying66 rfl (by simp only [Array.size_setIfInBounds,hsz];exact cR);have HS:Hid _:=bB (P:=Tryz.prog) (T:=66) (V:=(C.setIfInBounds 23 (.int .i64 c)).setIfInBounds 24 (.int .u64 t)) (ba (ba H6.out 23 (.int .i64 c) (show w.heap.size+1≠w.heap.size by omega)) 24 (.int .u64 t) (show w.heap.size+1≠w.heap.size by omega)) (by simp only [Array.size_setIfInBounds,hsz];exact cR) (by simp only [Array.size_setIfInBounds,hsz,hz]) (kQ (kQ HO.out _ rfl) _ rfl);go_wp2_with (first
  | ((with_reducible refine aI ?_ HL.out ?_);(exact rfl))
  | ((with_reducible refine aH ?_ ?_ HS.out ?_);(exact rfl);(exact rfl)))
 have hD:D.size=31:=by rw [<-HE.out];simp only [Array.size_setIfInBounds,hsz]
 have e1:=aX (V:=(C.setIfInBounds 23 (.int .i64 c)).setIfInBounds 24 (.int .u64 t)) (ba (ba H6.out 23 (.int .i64 c) (show w.heap.size+1≠w.heap.size by omega)) 24 (.int .u64 t) (show w.heap.size+1≠w.heap.size by omega)) (by rw [HE.out,hD,hz]);have e2:=aS (show w.heap.size<=w.heap.size+1 by omega) ((C.setIfInBounds 23 (.int .i64 c)).setIfInBounds 24 (.int .u64 t)).toList 0 _ (bK (bK n1 nle 23 (.int .i64 c)) nle 24 (.int .u64 t));rw [HE.out] at e1 e2 |-;generalize ((v1.setCell ⟨w.heap.size,23,none⟩ (.int .i64 c)).setCell ⟨w.heap.size,24,none⟩ (.int .u64 t)).setCells (w.heap.size+1) 0 D.toList=v2 at e1 e2 |-;exact dx (b:=w.heap.size+1) Tryz.results85 rfl (bx (P:=Tryz.prog) e1 Tryz.underlying66 rfl (by rw [hD];exact cR)) rfl ⟨rfl,e2⟩
theorem sD (p:PtrM) (h:HartM) (w:World):
 Calls Tryz.prog 117 #[.agg (ah p h)] w fun e w'=>e=.returned (dK h.mode h.sum h.mxr h.satp)∧Below w.heap.size w w':=by
 have hsz:=fX p h;have g3:(ah p h)[3]?=some (.int .i64 h.mode):=rfl;have g4:(ah p h)[4]?=some (.bool h.sum):=rfl;have g5:(ah p h)[5]?=some (.bool h.mxr):=rfl;have g6:(ah p h)[6]?=some (.int .u64 h.satp):=rfl;generalize ah p h=C at *;unfold dK;go_enter Tryz.func117,Tryz.ntmps117;go_upto_region 1 with fail;have F:=eu w C #[.int .i64 0,.bool false,.bool false,.int .u64 0] 39 205;generalize (w.alloc (Obj.cells C 39)).alloc (Obj.cells #[.int .i64 0,.bool false,.bool false,.int .u64 0] 205)=v1 at F |-;obtain ⟨h3,h6,l1,n1⟩:=F;have c3:=aa h3 3 g3;have c4:=aa h3 4 g4;have c5:=aa h3 5 g5;have c6:=aa h3 6 g6;have k0:=aa h6 0 (v:=.int .i64 0) rfl;have k1:=aa h6 1 (v:=.bool false) rfl;have k2:=aa h6 2 (v:=.bool false) rfl;have k3:=aa h6 3 (v:=.int .u64 0) rfl;have f0:=aE h6 0;have f1:=aE h6 1;have f2:=aE h6 2;have f3:=aE h6 3;have ne1:w.heap.size≠w.heap.size+1:=by omega
 have ne2:w.heap.size+1≠w.heap.size:=by omega
 have b1:w.heap.size<v1.heap.size:=by omega
 have b2:w.heap.size+1<v1.heap.size:=by omega
 clear h3 h6;go_wp2_with fail;exact bodyPost_ret (v:=.agg #[.int .i64 h.mode,.bool h.sum,.bool h.mxr,.int .u64 h.satp]) (by simp [results,Tryz.results117,go_sem,k0,k1,k2,k3]) rfl ⟨rfl,bK (bK (bK (bK n1 (by omega) _ _) (by omega) _ _) (by omega) _ _) (by omega) _ _⟩
theorem jp (satp:Int) (w:World) (h0:0<=satp) (h1:satp<=18446744073709551615):
 Calls Tryz.prog 47 #[.int .u64 satp] w fun e w'=>e=.returned (.bool (dE satp))∧Below w.heap.size w w':=by
 have HS:Hid (dE satp=(satp/1152921504606846976%16 == 0 || satp/1152921504606846976%16 == 8)):=rfl;have HB:Hid (∀u,Calls Tryz.prog 81 #[.int .u64 satp,.int .i64 60,.int .i64 63] u fun e w'=>e=.returned (.int .u64 (satp/1152921504606846976%16))∧∃n,w'=u.drewN n):=fun u=>bJ satp 60 63 _ _ u h0 h1 (by omega) (by omega) (by omega) (by omega) (by decide) (by decide);generalize dE satp=q at *;generalize satp/1152921504606846976%16=x at *;by_cases hx:x=0
 ·subst hx;have hq:q=true:=by rw [HS.out];rfl
  subst hq;go_enter Tryz.func47,Tryz.ntmps47;go_wp2_with fail;refine (HB.out w).mono ?_;rintro e v1 ⟨rfl,n,rfl⟩;go_wp2_with fail;go_ret;exact ⟨rfl,below_drewN (Below.refl _ _) n⟩
 ·have hx':(x == 0)=false:=by simpa using hx
  go_enter Tryz.func47,Tryz.ntmps47;go_wp2_with fail;refine (HB.out w).mono ?_;rintro e v1 ⟨rfl,n,rfl⟩;go_wp2_with fail;refine (HB.out _).mono ?_;rintro e v2 ⟨rfl,m,rfl⟩;go_wp2_with fail;go_ret;exact ⟨aB (by rw [HS.out,hx'];simp),below_drewN (Below.refl _ _) (n+m)⟩
end Go.Proofs.YtgnnmgfgfihljaaGreat
