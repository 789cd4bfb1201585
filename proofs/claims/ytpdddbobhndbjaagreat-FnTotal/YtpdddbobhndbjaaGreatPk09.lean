import Derived.Test.YtpdddbobhndbjaaGreatPk08
namespace Go.Proofs.YtpdddbobhndbjaaGreat
open Go.RowKit
set_option linter.unusedVariables false
set_option maxHeartbeats 6400000
set_option maxRecDepth 20000
def gv (zs:List Int):Prop:=∀i:Nat,0<=zs[i]?.getD 0∧zs[i]?.getD 0<=255
def qY (zs:List Int):Prop:=∀i:Nat,0<=zs[i]?.getD 0∧zs[i]?.getD 0<=18446744073709551615
def inU (x:Int):Prop:=0<=x∧x<=18446744073709551615
def kOk (k:KM):Prop:=fy k.i∧fy k.d∧fy k.p
structure HOk (h:HartM):Prop where
 valid:qK h=true
 mem:gv h.mem
 regs:qY h.regs
 pc:inU h.pc
 satp:inU h.satp
 tvec:inU h.tvec
 epc:inU h.epc
 tval:inU h.tval
 ks:kOk h.k
structure ROk (r:RunM):Prop where
 h:HOk r.h
 cause:0<=r.cause∧r.cause<=63
 tval:inU r.tval
 looks:∀l∈r.looks,(0<=l.1∧l.1<=2)∧inU l.2
 fva:inU r.fence.va
 fas:inU r.fence.asid
structure VH (h:HartM):Prop where
 size:ez h.mem.length=true
 regs:h.regs.length=8
 zero:h.regs[0]?.getD 0=0
 mode:0<=h.mode∧h.mode<=2
 emode:0<=h.emode∧h.emode<=2
 satp:de h.satp=true
 tvec:h.tvec%4=0
 cause:0<=h.cause∧h.cause<=63
 ks:bW h.k=true
theorem dL (h:HartM):qK h=true↔VH h:=by
 simp only [qK,io,Bool.and_eq_true,decide_eq_true_eq,beq_iff_eq];constructor
 ·rintro ⟨⟨a,⟨⟨⟨⟨⟨⟨b,c⟩,d⟩,e⟩,f⟩,g⟩,i⟩⟩,j⟩;exact ⟨a,b,c,d,e,f,g,i,j⟩
 ·rintro ⟨a,b,c,d,e,f,g,i,j⟩;exact ⟨⟨a,⟨⟨⟨⟨⟨⟨b,c⟩,d⟩,e⟩,f⟩,g⟩,i⟩⟩,j⟩
theorem HOk.v {h:HartM} (k:HOk h):VH h:=(dL h).1 k.valid
theorem gy {n:Nat} (h:ez n=true):n%64=0∧64<=n∧n<=4096:=by simpa [ez] using h
theorem Ak (pte level va:Int):inU (fP pte level va):=by
 have hp:0<=dG pte∧dG pte<17592186044416:=by unfold dG;omega
 unfold fP gL inU;split
 ·omega
 ·split
  ·omega
  ·split <;> omega
theorem qZ (kind:Int):0<=eA kind∧eA kind<=63:=by unfold eA;split;omega;split <;> omega
theorem rd (kind:Int):0<=bL kind∧bL kind<=63:=by unfold bL;split;omega;split <;> omega
theorem uW (pte level mode:Int) (sum mxr:Bool) (kind va:Int):(0<=(eV pte level mode sum mxr kind va).1∧(eV pte level mode sum mxr kind va).1<=63)∧inU (eV pte level mode sum mxr kind va).2:=by
 unfold eV;split
 ·exact ⟨⟨by simp,by simp⟩,Ak _ _ _⟩
 ·exact ⟨qZ kind,by simp [inU]⟩
theorem re (r:Int × Int × Int × List dQ) (mode:Int) (sum mxr:Bool) (kind va:Int):(0<=(cV r mode sum mxr kind va).1∧(cV r mode sum mxr kind va).1<=63)∧inU (cV r mode sum mxr kind va).2:=by
 unfold cV;split
 ·exact ⟨qZ kind,by simp [inU]⟩
 ·split
  ·exact ⟨rd kind,by simp [inU]⟩
  ·exact uW _ _ _ _ _ _ _
theorem yY (zs:List Int) (mode:Int) (sum mxr:Bool) (satp kind va:Int) (hv:inU va):(0<=(iF zs mode sum mxr satp kind va).1∧(iF zs mode sum mxr satp kind va).1<=63)∧inU (iF zs mode sum mxr satp kind va).2:=by
 unfold iF;split
 ·exact ⟨⟨by simp,by simp⟩,by simp [inU]⟩
 ·split
  ·exact ⟨⟨by simp,by simp⟩,hv⟩
  ·exact re _ _ _ _ _ _
theorem uX (zs:List Int) (mode:Int) (sum mxr:Bool) (satp:Int) (k:KM) (kind va pick:Int) (hz:gv zs) (hk:kOk k) (hv:inU va):
 kOk (cD zs mode sum mxr satp k kind va pick).2∧(0<=(cD zs mode sum mxr satp k kind va pick).1.1∧(cD zs mode sum mxr satp k kind va pick).1.1<=63)∧inU (cD zs mode sum mxr satp k kind va pick).1.2:=by
 unfold cD;by_cases hb:bW k=false∨kind<0∨2<kind∨mode<0∨2<mode∨pick<0∨255<pick
 ·rw [if_pos hb];have h0:fy ew:=⟨fun e he=>absurd he (by simp [ew]),by simp [ew],by simp [ew],by simp [ew]⟩;exact ⟨⟨h0,h0,h0⟩,⟨by simp,by simp⟩,by simp [inU]⟩
 ·rw [if_neg hb];have hg:bW k=true:=by
   cases hh:bW k
   ·exact absurd (.inl hh) hb
   ·rfl
  split
  ·exact ⟨hk,⟨by simp,by simp⟩,hv⟩
  ·split
   ·exact ⟨hk,qZ kind,by simp [inU]⟩
   ·split
    ·have:=uW (ba (eQ k kind) va (aM satp)).2.2.2 (ba (eQ k kind) va (aM satp)).2.2.1 mode sum mxr kind va;exact ⟨hk,this.1,this.2⟩
    ·simp only;have hgp:aQ k.p true=true:=by simp only [bW,Bool.and_eq_true] at hg;exact hg.2
     obtain ⟨_,_,hl⟩:=nZ zs satp va k.p (aM satp) hgp hk.2.2.1 hz;have ha:=re (bj zs satp va (ba k.p va (aM satp))) mode sum mxr kind va;have hp:=ul va satp pick _ k.p hk.2.2 hl.recs;refine ⟨?_,ha.1,ha.2⟩;have ht:fy (eQ k kind):=by unfold eQ;split;exact hk.1;exact hk.2.1
     have hi:=tA pick ht (qF (bj zs satp va (ba k.p va (aM satp))).2.1 va satp (bj zs satp va (ba k.p va (aM satp))).2.2.1 hl.level hl.pte);split
     ·unfold sX;split
      ·exact ⟨hi,hk.2.1,hp⟩
      ·exact ⟨hk.1,hi,hp⟩
     ·exact ⟨hk.1,hk.2.1,hp⟩
theorem gX {h:HartM} (hh:HOk h) (plain:Bool) {pick kind va:Int} (hp:0<=pick∧pick<=255) (hk:0<=kind∧kind<=2) (hv:inU va):
 HOk (withK h (br plain pick h kind va).2)∧(0<=(br plain pick h kind va).1.1∧(br plain pick h kind va).1.1<=63)∧inU (br plain pick h kind va).1.2:=by
 have v:=hh.v;cases plain
 ·have e:br false pick h kind va=cD h.mem h.mode h.sum h.mxr h.satp h.k kind va pick:=rfl;rw [e];obtain ⟨t1,t2,t3⟩:=uX h.mem h.mode h.sum h.mxr h.satp h.k kind va pick hh.mem hh.ks hv;have tg:=xY h.mem h.mode h.sum h.mxr h.satp h.k kind va pick v.ks hk v.mode hp;refine ⟨⟨(dL _).2 ⟨v.size,v.regs,v.zero,v.mode,v.emode,v.satp,v.tvec,v.cause,tg⟩,hh.mem,hh.regs,hh.pc,hh.satp,hh.tvec,hh.epc,hh.tval,t1⟩,t2,t3⟩
 ·have e:br true pick h kind va=(iF h.mem h.mode h.sum h.mxr h.satp kind va,h.k):=rfl;rw [e];have:=yY h.mem h.mode h.sum h.mxr h.satp kind va hv;exact ⟨hh,this.1,this.2⟩
theorem iS {r:RunM} (hr:ROk r) (plain:Bool) {pick kind va:Int} (hp:0<=pick∧pick<=255) (hk:0<=kind∧kind<=2) (hv:inU va):ROk (bX plain pick r kind va):=by
 refine ⟨(gX hr.h plain hp hk hv).1,hr.cause,hr.tval,?_,hr.fva,hr.fas⟩;intro l hl;rcases List.mem_append.1 hl with hl | hl
 ·exact hr.looks l hl
 ·rw [List.mem_singleton] at hl;subst hl;exact ⟨hk,hv⟩
theorem ir {r:RunM} (hr:ROk r) {c t:Int} (hc:0<=c∧c<=63) (ht:inU t):ROk (bT r c t):=⟨hr.h,hc,ht,hr.looks,hr.fva,hr.fas⟩
def dS (ps:List bF):Prop:=∀p∈ps,inU p.1∧(1<=p.2.1∧p.2.1<=8)∧inU p.2.2
theorem rf (va w:Int) (hv:inU va) (hw:1<=w∧w<=8):dS (cE va w):=by
 unfold inU at hv;unfold cE;split
 ·intro p hp;simp only [List.mem_cons,List.not_mem_nil,or_false] at hp;rcases hp with rfl | rfl
  ·exact ⟨hv,by simp only;omega,by simp [inU]⟩
  ·exact ⟨by simp only [inU];omega,by simp only;omega,by simp [inU]⟩
 ·intro p hp;simp only [List.mem_singleton] at hp;subst hp;exact ⟨hv,hw,by simp [inU]⟩
theorem fC (plain:Bool) {pick kind:Int} (hp:0<=pick∧pick<=255) (hk:0<=kind∧kind<=2):∀(ps:List bF) (r:RunM),ROk r->dS ps->ROk (ao plain pick kind r ps).1∧dS (ao plain pick kind r ps).2
 | [],r,hr,hs=>⟨hr,hs⟩
 | p::ps,r,hr,hs=>by
  have h1:=hs p (List.mem_cons_self ..);have hl:=iS hr plain hp hk h1.1;have ht:=gX hr.h plain hp hk h1.1;rw [ao];split
  ·have:=fC plain hp hk ps _ hl (fun q hq=>hs q (List.mem_cons_of_mem _ hq));refine ⟨this.1,fun q hq=>?_⟩;rcases List.mem_cons.1 hq with rfl | hq
   ·exact ⟨h1.1,h1.2.1,ht.2.2⟩
   ·exact this.2 q hq
  ·exact ⟨ir hl ht.2.1 h1.1,hs⟩
theorem uY {mem:List Int}:∀{ps:List bF} {v:Int},fN mem ps=some v->∃p∈ps,p.1=v
 | p::ps,v,h=>by
  rw [fN] at h;split at h
  ·obtain ⟨q,hq,e⟩:=uY h;exact ⟨q,List.mem_cons_of_mem _ hq,e⟩
  ·cases h;exact ⟨p,List.mem_cons_self ..,rfl⟩
theorem gY (plain:Bool) {pick kind va w:Int} {r:RunM} (hp:0<=pick∧pick<=255) (hk:0<=kind∧kind<=2) (hv:inU va) (hw:1<=w∧w<=8) (hr:ROk r):ROk (aL plain pick r kind va w).1∧dS (aL plain pick r kind va w).2:=by
 have:=fC plain hp hk (cE va w) r hr (rf va w hv hw);unfold aL;generalize ao plain pick kind r (cE va w)=z at this |-;split
 ·split
  ·exact this
  ·rename_i v ho;obtain ⟨p,hp',e⟩:=uY ho;exact ⟨ir this.1 (rd kind) (by rw [<-e];exact (this.2 p hp').1),this.2⟩
 ·exact this
theorem Al {zs:List Int} (h:qY zs) (n:Nat) {x:Int} (hx:inU x):qY (zs.set n x):=by
 intro i;rw [List.getElem?_set];split
 ·split
  ·exact hx
  ·simp
 ·exact h i
theorem CZ {h:HartM} (hr:qY h.regs) (a:Int):inU (fV h a):=hr a.toNat
theorem gZ {r:RunM} (hr:ROk r) (a:Int) {x:Int} (hx:inU x):ROk (ct r a x):=by
 have v:=hr.h.v;unfold ct;by_cases ha:0<a
 ·rw [if_pos ha];refine ⟨⟨(dL _).2 ⟨v.size,by simp [bE,eC,v.regs],?_,v.mode,v.emode,v.satp,v.tvec,v.cause,v.ks⟩,hr.h.mem,Al hr.h.regs _ hx,hr.h.pc,hr.h.satp,hr.h.tvec,hr.h.epc,hr.h.tval,hr.h.ks⟩,hr.cause,hr.tval,hr.looks,hr.fva,hr.fas⟩;show (r.h.regs.set a.toNat x)[0]?.getD 0=0;rw [List.getElem?_set_ne (by omega)];exact v.zero
 ·rw [if_neg ha];exact hr
theorem BT {r:RunM} (hr:ROk r) {m:List Int} (hl:m.length=r.h.mem.length) (hm:gv m):ROk (bE r (eg r.h m)):=by
 have v:=hr.h.v;exact ⟨⟨(dL _).2 ⟨by show ez m.length=true;rw [hl];exact v.size,v.regs,v.zero,v.mode,v.emode,v.satp,v.tvec,v.cause,v.ks⟩,hm,hr.h.regs,hr.h.pc,hr.h.satp,hr.h.tvec,hr.h.epc,hr.h.tval,hr.h.ks⟩,hr.cause,hr.tval,hr.looks,hr.fva,hr.fas⟩
theorem yZ {zs ys:List Int} {k:Nat} (h:gv zs) (hy:∀y∈ys,0<=y∧y<=255):gv (put zs k ys):=by
 refine fY fun z hz=>?_;unfold put at hz;rw [List.append_assoc,List.mem_append,List.mem_append] at hz;rcases hz with hz | hz | hz
 ·exact fZ h z (List.mem_of_mem_take hz)
 ·exact hy z hz
 ·exact fZ h z (List.mem_of_mem_drop hz)
theorem uZ {mem:List Int}:∀{ps:List bF},fN mem ps=none->∀p∈ps,fA mem.length p.2.2 p.2.1=true
 | p::ps,h,q,hq=>by
  rw [fN] at h;split at h
  ·rcases List.mem_cons.1 hq with rfl | hq
   ·assumption
   ·exact uZ h q hq
  ·cases h
theorem jB {plain:Bool} {pick kind va w:Int} {r:RunM} (h0:(aL plain pick r kind va w).1.cause=0):∀p∈(aL plain pick r kind va w).2,fA (aL plain pick r kind va w).1.h.mem.length p.2.2 p.2.1=true:=by
 unfold aL at h0 |-;generalize ao plain pick kind r (cE va w)=z at h0 |-;by_cases hc:z.1.cause=0
 ·rw [if_pos hc] at h0 |-;cases ho:fN z.1.h.mem z.2 with
  | none=>
   exact uZ ho
  | some v=>
   rw [ho] at h0;exact absurd h0 (iY kind)
 ·rw [if_neg hc] at h0;exact absurd h0 hc
theorem xA:∀(ps:List bF) (mem b:List Int),gv mem->(∀y∈b,0<=y∧y<=255)->(∀p∈ps,fA mem.length p.2.2 p.2.1=true)->dS ps->(iz mem ps b).length=mem.length∧gv (iz mem ps b)
 | [],mem,b,hm,hb,hi,hs=>⟨rfl,hm⟩
 | p::ps,mem,b,hm,hb,hi,hs=>by
  have h1:=hi p (List.mem_cons_self ..);have h2:=(hs p (List.mem_cons_self ..)).2;simp only [fA,decide_eq_true_eq] at h1;obtain ⟨h21,h22⟩:=h2;unfold inU at h22;have hl:(put mem p.2.2.toNat (b.take p.2.1.toNat)).length=mem.length:=yn mem _ _ (by rw [List.length_take];omega);rw [iz];have:=xA ps (put mem p.2.2.toNat (b.take p.2.1.toNat)) (b.drop p.2.1.toNat) (yZ hm fun y hy=>hb y (List.mem_of_mem_take hy)) (fun y hy=>hb y (List.mem_of_mem_drop hy)) (fun q hq=>by rw [hl];exact hi q (List.mem_cons_of_mem _ hq)) (fun q hq=>hs q (List.mem_cons_of_mem _ hq));rw [hl] at this;exact this
theorem iH {mem:List Int} (hm:gv mem):∀(ps:List bF),∀z∈cz mem ps,0<=z∧z<=255
 | p::ps,z,hz=>by
  rw [cz,List.mem_append] at hz;rcases hz with hz | hz
  ·exact fZ hm z (List.mem_of_mem_drop (List.mem_of_mem_take hz))
  ·exact iH hm ps z hz
def it:List bF->Int
 | []=>0
 | p::ps=>p.2.1+it ps
theorem jo (mem:List Int):∀(ps:List bF),dS ps->((cz mem ps).length:Int)<=it ps
 | [],_=>by simp [cz,it]
 | p::ps,h=>by
  have h1:=(h p (List.mem_cons_self ..)).2.1;have:=jo mem ps fun q hq=>h q (List.mem_cons_of_mem _ hq);rw [cz,it,List.length_append,List.length_take];omega
theorem kJ (plain:Bool) (pick kind:Int):∀(ps:List bF) (r:RunM),it (ao plain pick kind r ps).2=it ps
 | [],r=>rfl
 | p::ps,r=>by
  rw [ao];split
  ·rw [it,it,kJ plain pick kind ps _]
  ·rfl
theorem jC (plain:Bool) (pick kind va w:Int) (r:RunM):it (aL plain pick r kind va w).2=w:=by
 have hc:it (cE va w)=w:=by
  unfold cE;split <;> simp only [it] <;> omega
 have:=kJ plain pick kind (cE va w) r;unfold aL;generalize ao plain pick kind r (cE va w)=z at this |-;split
 ·split <;> (rw [this,hc])
 ·rw [this,hc]
theorem Am {mem:List Int} (hm:gv mem) {ps:List bF} (hs:dS ps) (hl:it ps<=8):inU (iD mem ps):=by
 have h1:=jo mem ps hs;have:=kK (cz mem ps) 8 (iH hm ps) (by omega);unfold iD inU;have e:(256:Int)^8=18446744073709551616:=by decide
 omega
theorem eW (x:Int):inU (x%18446744073709551616):=by unfold inU;omega
theorem rh {t:RunM × List bF} (hr:ROk t.1) (hs:dS t.2) (hi:∀p∈t.2,fA t.1.h.mem.length p.2.2 p.2.1=true) (x:Int) (n:Nat):ROk (dh t (da x n)):=by
 have:=xA t.2 t.1.h.mem (da x n) hr.h.mem (nm n x) hi hs;exact BT hr this.1 this.2
theorem jU (c:Int) (hc:0<=c):1<=iA (c%4)∧iA (c%4)<=8:=by
 unfold iA;rcases (show c%4=0∨c%4=1∨c%4=2∨c%4=3 by omega) with h | h | h | h <;> rw [h] <;> decide
theorem An (plain:Bool) {pick ea w a:Int} {r:RunM} (hp:0<=pick∧pick<=255) (hv:inU ea) (hw:1<=w∧w<=8) (hr:ROk r):ROk (oA plain pick r ea w a):=by
 obtain ⟨h1,h2⟩:=gY plain hp (kind:=1) (by omega) hv hw hr;have h3:=jC plain pick 1 ea w r;unfold oA;generalize aL plain pick r 1 ea w=z at h1 h2 h3 |-;split
 ·exact gZ h1 a (Am h1.h.mem h2 (by omega))
 ·exact h1
theorem za (plain:Bool) {pick ea w x:Int} {r:RunM} (hp:0<=pick∧pick<=255) (hv:inU ea) (hw:1<=w∧w<=8) (hr:ROk r):ROk (kl plain pick r ea w x):=by
 obtain ⟨h1,h2⟩:=gY plain hp (kind:=2) (by omega) hv hw hr;have h4:=@jB plain pick 2 ea w r;unfold kl;generalize aL plain pick r 2 ea w=z at h1 h2 h4 |-;split
 ·rename_i h0;exact rh h1 h2 (h4 h0) _ _
 ·exact h1
theorem BU (plain:Bool) {pick ea a x:Int} {r:RunM} (hp:0<=pick∧pick<=255) (hv:inU ea) (hr:ROk r):ROk (uD plain pick r ea a x):=by
 obtain ⟨h1,h2⟩:=gY plain hp (kind:=2) (by omega) hv (w:=8) (by omega) hr;have h3:=jC plain pick 2 ea 8 r;have h4:=@jB plain pick 2 ea 8 r;unfold uD;generalize aL plain pick r 2 ea 8=z at h1 h2 h3 h4 |-;split
 ·rename_i h0;exact gZ (rh h1 h2 (h4 h0) _ _) a (Am h1.h.mem h2 (by omega))
 ·exact h1
theorem jD {t:TlbM} {f:FenceM} (h:fy t):fy (eI t f):=by
 unfold eI;split
 ·refine ⟨fun e he=>?_,h.2.1,h.2.2.1,by simpa using h.2.2.2⟩;simp only [List.mem_map] at he;obtain ⟨y,hy,rfl⟩:=he;unfold cj;split
  ·simp [eU,cK]
  ·exact h.1 y hy
 ·exact h
theorem Da (plain:Bool) {pick pc op a b c s word:Int} {r:RunM} (hp:0<=pick∧pick<=255) (hc:0<=c) (hw:inU word) (hr:ROk r):ROk (doM plain pick r pc op a b c s word):=by
 have v:=hr.h.v;have rg:=fun x=>CZ hr.h.regs x;have hea:inU (eaM r.h b s):=eW _;unfold doM;by_cases hi:bU op c r.h.mode=true
 ·rw [if_pos hi];exact ir hr (by omega) hw
 rw [if_neg hi];by_cases o1:op=1
 ·rw [if_pos o1];exact gZ hr _ (eW _)
 rw [if_neg o1];by_cases o2:op=2
 ·rw [if_pos o2];exact gZ hr _ (eW _)
 rw [if_neg o2];by_cases o3:op=3
 ·rw [if_pos o3];exact gZ hr _ hea
 rw [if_neg o3];by_cases o4:op=4
 ·rw [if_pos o4];exact gZ hr _ (eW _)
 rw [if_neg o4];by_cases o5:op=5
 ·rw [if_pos o5];exact An plain hp hea (jU c hc) hr
 rw [if_neg o5];by_cases o6:op=6
 ·rw [if_pos o6];exact za plain hp hea (jU c hc) hr
 rw [if_neg o6];by_cases o7:op=7
 ·rw [if_pos o7];exact BU plain hp hea hr
 rw [if_neg o7];by_cases o8:op=8
 ·rw [if_pos o8];split
  ·exact hr
  ·exact ⟨⟨(dL _).2 ⟨v.size,v.regs,v.zero,v.mode,v.emode,v.satp,v.tvec,v.cause,v.ks⟩,hr.h.mem,hr.h.regs,eW _,hr.h.satp,hr.h.tvec,hr.h.epc,hr.h.tval,hr.h.ks⟩,hr.cause,hr.tval,hr.looks,hr.fva,hr.fas⟩
 rw [if_neg o8];by_cases o9:op=9
 ·rw [if_pos o9];split
  ·rename_i hs;exact ⟨⟨(dL _).2 ⟨v.size,v.regs,v.zero,v.mode,v.emode,hs,v.tvec,v.cause,v.ks⟩,hr.h.mem,hr.h.regs,hr.h.pc,rg a,hr.h.tvec,hr.h.epc,hr.h.tval,hr.h.ks⟩,hr.cause,hr.tval,hr.looks,hr.fva,hr.fas⟩
  ·exact hr
 rw [if_neg o9];by_cases o10:op=10
 ·rw [if_pos o10];exact ⟨⟨(dL _).2 ⟨v.size,v.regs,v.zero,v.mode,v.emode,v.satp,v.tvec,v.cause,v.ks⟩,hr.h.mem,hr.h.regs,hr.h.pc,hr.h.satp,hr.h.tvec,hr.h.epc,hr.h.tval,hr.h.ks⟩,hr.cause,hr.tval,hr.looks,hr.fva,hr.fas⟩
 rw [if_neg o10];by_cases o11:op=11
 ·rw [if_pos o11];have rb:=rg b;have hfas:inU (lZ r.h a b).asid:=by unfold inU at rb |-;show 0<=fV r.h b%65536∧fV r.h b%65536<=_;omega
  cases plain
  ·exact ⟨⟨(dL _).2 ⟨v.size,v.regs,v.zero,v.mode,v.emode,v.satp,v.tvec,v.cause,wo _ _ v.ks⟩,hr.h.mem,hr.h.regs,hr.h.pc,hr.h.satp,hr.h.tvec,hr.h.epc,hr.h.tval,jD hr.h.ks.1,jD hr.h.ks.2.1,jD hr.h.ks.2.2⟩,hr.cause,hr.tval,hr.looks,rg a,hfas⟩
  ·exact ⟨hr.h,hr.cause,hr.tval,hr.looks,rg a,hfas⟩
 rw [if_neg o11];by_cases o12:op=12
 ·rw [if_pos o12];exact ⟨⟨(dL _).2 ⟨v.size,v.regs,v.zero,v.emode,v.emode,v.satp,v.tvec,v.cause,v.ks⟩,hr.h.mem,hr.h.regs,eW _,hr.h.satp,hr.h.tvec,hr.h.epc,hr.h.tval,hr.h.ks⟩,hr.cause,hr.tval,hr.looks,hr.fva,hr.fas⟩
 rw [if_neg o12];by_cases o13:op=13
 ·rw [if_pos o13];have hc2:c<=2:=by
   simp only [bU,Bool.or_eq_true,decide_eq_true_eq,not_or] at hi;omega
  exact ⟨⟨(dL _).2 ⟨v.size,v.regs,v.zero,v.mode,⟨hc,hc2⟩,v.satp,v.tvec,v.cause,v.ks⟩,hr.h.mem,hr.h.regs,hr.h.pc,hr.h.satp,hr.h.tvec,rg a,hr.h.tval,hr.h.ks⟩,hr.cause,hr.tval,hr.looks,hr.fva,hr.fas⟩
 rw [if_neg o13];have hmd:=v.mode;by_cases o14:op=14
 ·rw [if_pos o14];exact ir hr (by omega) (by simp [inU])
 rw [if_neg o14];exact ir hr (by omega) hw
theorem oU {r:RunM} (hr:ROk r):ROk (bE r (ex r.h ((r.h.pc+4)%18446744073709551616))):=by
 have v:=hr.h.v;exact ⟨⟨(dL _).2 ⟨v.size,v.regs,v.zero,v.mode,v.emode,v.satp,v.tvec,v.cause,v.ks⟩,hr.h.mem,hr.h.regs,eW _,hr.h.satp,hr.h.tvec,hr.h.epc,hr.h.tval,hr.h.ks⟩,hr.cause,hr.tval,hr.looks,hr.fva,hr.fas⟩
theorem BV (plain:Bool) {pick x:Int} {r:RunM} (hp:0<=pick∧pick<=255) (hx:inU x) (hr:ROk r):ROk (jR plain pick r x):=by
 have hr':=oU hr;unfold jR fm;generalize bE r (ex r.h ((r.h.pc+4)%18446744073709551616))=y at hr' |-;exact Da plain hp (by omega) hx hr'
theorem ve (plain:Bool) {pick:Int} {r:RunM} (hp:0<=pick∧pick<=255) (hr:ROk r):ROk (eD plain pick r):=by
 have ht:=gX hr.h plain hp (kind:=0) (by omega) hr.h.pc;have hl:=iS hr plain hp (kind:=0) (by omega) hr.h.pc;have hx:inU (jQ plain pick r.h):=mH _ _ 4 (by omega) hr.h.mem;unfold eD;generalize bX plain pick r 0 r.h.pc=z at hl |-;split
 ·split
  ·split
   ·exact BV plain hp hx hl
   ·exact ir hl (by omega) hr.h.pc
  ·exact ir hl ht.2.1 hr.h.pc
 ·exact ir hr (by omega) hr.h.pc
theorem jE {t:TlbM} {n:Int} (h:fy t):fy (bf t n):=by
 refine ⟨fun e he=>?_,h.2.1,h.2.2.1,by simpa [bf] using h.2.2.2⟩;rcases List.mem_or_eq_of_mem_set he with he | rfl
 ·exact h.1 e he
 ·simp [eU,cK]
theorem jF (plain:Bool) (pick:Int) {h:HartM} (hh:HOk h):ROk (cL plain pick h):=by
 have v:=hh.v;refine ⟨⟨(dL _).2 ⟨v.size,v.regs,v.zero,v.mode,v.emode,v.satp,v.tvec,v.cause,xV plain pick _ v.ks⟩,hh.mem,hh.regs,hh.pc,hh.satp,hh.tvec,hh.epc,hh.tval,?_⟩,⟨by simp [cL],by simp [cL]⟩,by simp [cL,inU],fun l hl=>by simp [cL] at hl,by simp [cL,eJ,inU],by simp [cL,eJ,inU]⟩;show kOk (fW plain pick h.k);unfold fW;split
 ·exact ⟨jE hh.ks.1,jE hh.ks.2.1,jE hh.ks.2.2⟩
 ·exact hh.ks
theorem nj (plain:Bool) {pick:Int} {h:HartM} (hp:0<=pick∧pick<=255) (hh:HOk h):ROk (dU plain pick h):=by
 have hb:=ve plain hp (jF plain pick hh);have v:=hh.v;have vb:=hb.h.v;unfold dU oB;generalize eD plain pick (cL plain pick h)=z at hb vb |-;split
 ·exact hb
 ·exact ⟨⟨(dL _).2 ⟨v.size,v.regs,v.zero,by simp [bE,dK],v.mode,v.satp,v.tvec,hb.cause,vb.ks⟩,hh.mem,hh.regs,hh.tvec,hh.satp,hh.tvec,hh.pc,hb.tval,hb.h.ks⟩,hb.cause,hb.tval,hb.looks,hb.fva,hb.fas⟩
section
attribute [local go_sem ↓] Go.wp_at_zero Go.wp_at_succ
def ux (f:FenceM):Value:=.agg #[.bool f.hasVa,.int .u64 f.va,.bool f.hasAsid,.int .u64 f.asid]
theorem uy (f:FenceM) (level tag asid:Int) (glob:Bool) (w:World) (h0:0<=f.va) (h1:f.va<=18446744073709551615) (hl0:0<=level) (hl2:level<=2):
 Calls Tryz.prog 127 #[ux f,.int .i64 level,.int .u64 tag,.int .u64 asid,.bool glob] w fun e w'=>e=.returned (.bool (il f level tag asid glob))∧Bw w w':=by
 obtain ⟨hv,va,ha,fa⟩:=f;simp only at h0 h1;unfold ux;simp only;have n1:=(Below.refl w.heap.size w).alloc nle (Obj.cells #[.bool hv,.int .u64 va,.bool ha,.int .u64 fa] 49);obtain ⟨cn,hcn⟩:∃cn,du va=cn:=⟨_,rfl⟩;obtain ⟨tv,htv⟩:∃tv,fJ va level=tv:=⟨_,rfl⟩;have HC:Hid (∀w:World,Calls Tryz.prog 112 #[.int .u64 va] w fun e w'=>e=.returned (.bool cn)∧∃n,w'=w.drewN n):=fun w=>by
  have:=er va w h0 h1;rw [hcn] at this;exact this
 have HT:Hid (∀w:World,Calls Tryz.prog 142 #[.int .u64 va,.int .i64 level] w fun e w'=>e=.returned (.int .u64 tv)∧∃n,w'=w.drewN n):=fun w=>by
  have:=rR va level w h0 h1 hl0 hl2;rw [htv] at this;exact this
 obtain ⟨R,hR⟩:∃R,il ⟨hv,va,ha,fa⟩ level tag asid glob=R:=⟨_,rfl⟩;rw [hR];have HR:Hid (R=(!(hv && (!cn || tag != tv)) && (!ha || (!glob && asid == fa)))):=by
  show _=_;rw [<-hR,<-hcn,<-htv];rfl
 clear hR hcn htv;cases hv
 ·cases ha <;> cases glob;all_goals
   go_enter Tryz.func127,Tryz.ntmps127;go_wp2_with fail;go_ret;exact ⟨aE (by rw [HR.out];simp),n1⟩
 ·cases cn
  ·go_enter Tryz.func127,Tryz.ntmps127;go_wp2_with (go_at_call 112;refine (HC.out _).mono ?_;rintro e w' ⟨rfl,nq,rfl⟩);go_ret;exact ⟨aE (by rw [HR.out];simp),below_drewN n1 _⟩
  ·cases ht:(tag != tv)
   ·cases ha <;> cases glob;all_goals
     go_enter Tryz.func127,Tryz.ntmps127;go_wp2_with (first
      | (go_at_call 112;refine (HC.out _).mono ?_;rintro e w' ⟨rfl,nq,rfl⟩)
      | (go_at_call 142;refine (HT.out _).mono ?_;rintro e w' ⟨rfl,nr,rfl⟩))
     go_ret;exact ⟨aE (by rw [HR.out,ht];simp),below_drewN n1 (nq+nr)⟩
   ·go_enter Tryz.func127,Tryz.ntmps127;go_wp2_with (first
     | (go_at_call 112;refine (HC.out _).mono ?_;rintro e w' ⟨rfl,nq,rfl⟩)
     | (go_at_call 142;refine (HT.out _).mono ?_;rintro e w' ⟨rfl,nr,rfl⟩))
    go_ret;exact ⟨aE (by rw [HR.out,ht];simp),below_drewN n1 (nq+nr)⟩
end
section
attribute [local go_sem ↓] Go.wp_at_zero Go.wp_at_succ
def bH (f:FenceM) (k:Nat) (es:List EntM):List EntM:=(es.take k).map (cj f)++es.drop k
theorem jj (f:FenceM) (k:Nat) (es:List EntM):(bH f k es).length=es.length:=by
 simp [bH];omega
theorem nU (f:FenceM) (k:Nat) (es:List EntM) (x:EntM) (hx:es[k]?=some x):bH f (k+1) es=(bH f k es).set k (cj f x):=by
 obtain ⟨hk,rfl⟩:=List.getElem?_eq_some_iff.1 hx;unfold bH;apply List.ext_getElem?;intro j;rw [List.getElem?_set];by_cases hj:k=j
 ·subst hj;rw [if_pos rfl,if_pos (by simp;omega),List.getElem?_append_left (by simp;omega)];simp [hk]
 ·rw [if_neg hj];by_cases hlt:j<k
  ·rw [List.getElem?_append_left (by simp;omega),List.getElem?_append_left (by simp;omega)];simp [hlt,show j<k+1 by omega]
  ·rw [List.getElem?_append_right (by simp;omega),List.getElem?_append_right (by simp;omega)];simp;rw [show min (k+1) es.length=k+1 by omega,show min k es.length=k by omega];congr 1;omega
theorem jI:∀(l:List EntM) (k:Nat) (e:EntM),k<l.length->aR (l.set k e)=((((((aR l).set (k*6) (.bool e.valid)).set (k*6+1) (.int .i64 e.level)).set (k*6+2) (.int .u64 e.tag)).set (k*6+3) (.int .u64 e.asid)).set (k*6+4) (.bool e.glob)).set (k*6+5) (.int .u64 e.pte)
 | x::r,0,e,h=>by simp [aR,jr]
 | x::r,k+1,e,h=>by
  have ih:=jI r k e (by simpa using h);rw [List.set_cons_succ];simp only [aR,ih];rw [show (k+1)*6=(jr x).length+k*6 by simp [jr];omega];simp only [Nat.add_assoc];rw [List.set_append_right _ _ (by simp [jr]),List.set_append_right _ _ (by omega),List.set_append_right _ _ (by omega),List.set_append_right _ _ (by omega),List.set_append_right _ _ (by omega),List.set_append_right _ _ (by omega)];simp
theorem jq (v:Value) (t:TlbM) (f:FenceM) (w:World) (h:TlbAt w v t) (hf0:0<=f.va) (hf1:f.va<=18446744073709551615):
 Calls Tryz.prog 93 #[v,ux f] w fun e w'=>(∃x,e=.returned x∧TlbOwn w.heap.size w' x (eI t f))∧Bw w w':=by
 have HT:=hid h;have HOK:=hid (TlbAt.ok h);obtain ⟨a,cap,rfl,hr,_,_,_,hl,hlc,hcm,hnil,hsp⟩:=h;obtain ⟨eb,heb⟩:∃eb,fK t=eb:=⟨_,rfl⟩;have HEb:=hid heb;obtain ⟨sets,ways,es⟩:=t;obtain ⟨hv,fva,ha,fa⟩:=f;obtain ⟨n,hn⟩:∃n,es.length=n:=⟨_,rfl⟩;simp only at hr hl hlc hnil hf0 hf1 HT |-;have HN:=hid hn;rw [hn] at hr hl hlc hnil HT |-;obtain ⟨X,hX⟩:∃X,eI ⟨sets,ways,es⟩ ⟨hv,fva,ha,fa⟩=X:=⟨_,rfl⟩;have HX:=hid hX;rw [hX];have HR0:=hid hr;have HLv:Hid (eb=true->∀(j:Nat) x,es[j]?=some x->x.valid=true->0<=x.level∧x.level<=2):=fun h j x hx hv=>dY (t:=⟨sets,ways,es⟩) (heb.trans h) j x hx hv;clear hX;unfold ux;simp only;obtain ⟨v1,Ev1,n1,H1,H2,H3,l1⟩:=al3 w #[.int .i64 sets,.int .i64 ways,.slice a n cap] #[.bool hv,.int .u64 fva,.bool ha,.int .u64 fa] #[.int .i64 0,.int .i64 0,.slice none 0 0] 37 49 37;have HT1:=hid (HT.out.keep n1);have HR1:=hid (hr.keep n1);clear hr hnil hsp HT heb hn;go_enter Tryz.func93,Tryz.ntmps93;go_wp2_with fail;rw [Ev1.out];clear Ev1;refine (hZ _ ⟨sets,ways,es⟩ v1 HT1.out).mono ?_;rintro e v2 ⟨⟨x,rfl,g,cp,rfl,o2⟩,n2⟩;simp only at o2 |-;rw [HN.out] at o2 |-;have O2:=hid o2;have hg:=bZ o2;have n12:=bst n1 n2;have HT2:=hid (HT1.out.keep n2);have HR2:=hid (RowC.keep HR1.out n2);have K1:=ah H1 n2;have K2:=ah H2 n2;have K3:=ah H3 n2;have l2:=n2.size;obtain ⟨_,hg1,hg2⟩:=hg;simp only at hg1 hg2;clear o2 n1 n2 HT1 HR1 H1 H2 H3;obtain ⟨⟨c0,c1,c2⟩,_,_,_⟩:=aA K1.out;have s0:w.heap.size<v2.heap.size:=by omega
 go_wp2_with fail;obtain ⟨v3,Ev3,n3,H4,l3⟩:=al1 v2 #[.int .i64 sets,.int .i64 ways,.slice (some ⟨g,0,none⟩) n cp] 37;rw [Ev3.out];clear Ev3;have n13:=bst n12 n3;have HT3:=hid (HT2.out.keep n3);refine (nI _ ⟨sets,ways,es⟩ v3 HT3.out).mono ?_;rw [HEb.out];rintro e v4 ⟨rfl,n4⟩;have n34:=bst n3 n4;have A4:=bst n12 n34;have HR4:Hid (RowC v4 a n 6 (aR es)):=RowC.keep HR2.out n34;have O4:Hid (v4.ownsRow v1.heap.size 121 6 (.slice (some ⟨g,0,none⟩) n cp) n (aR es)):=aj O2.out n34;have P1:=ah K1 n34;have P2:=ah K2 n34;have P3:=ah K3 n34;have P4:=ah H4 n4;have l4:v2.heap.size<v4.heap.size:=Nat.lt_of_lt_of_le l3 n4.size;clear c0 c1 c2 n12 n13 n3 n4 n34 HT2 HT3 HR2 O2 K1 K2 K3 H4 l3;obtain ⟨⟨p0,p1,p2⟩,_,_,_⟩:=aA P4.out;cases eb
 ·have hfl:X=⟨sets,ways,es⟩:=by rw [<-HX.out];unfold eI;rw [if_neg (by rw [HEb.out];simp)]
  obtain ⟨⟨d0,d1,d2⟩,e0,e1,e2⟩:=aA P3.out;go_wp2_with fail;refine bodyPost_ret (v:=.agg #[.int .i64 sets,.int .i64 ways,.slice (some ⟨g,0,none⟩) n cp]) (by simp [results,Tryz.results93,go_sem,d0,d1,d2]) rfl ⟨⟨_,rfl,?_⟩,fU A4 (by omega) _ _ _⟩;rw [hfl];refine ⟨g,cp,by rw [HN.out],?_⟩;simp only;rw [HN.out];exact aP (aI O4.out (gb3 v4 (w.heap.size+1+1) _ _ _) (by omega)) (by omega)
 ·have HLv':=HLv.out rfl;have HL2:Hid (∀(j:Nat) x,es[j]?=some x->x.valid=true->0<=x.level∧x.level<=2):=HLv';clear HLv HLv';go_wp2_with fail;go_loopw [6] (fun i wr=>∃k:Nat,k<=n∧i=.int .i64 k∧v4.grownBy wr (some g)∧wr.ownsRow v1.heap.size 121 6 (.slice (some ⟨g,0,none⟩) n cp) n (aR (bH ⟨hv,fva,ha,fa⟩ k es))) (fun i _=>n-(intOf i).toNat)
  case atStart=>exact ⟨0,Nat.zero_le _,rfl,aq _ _,by rw [show bH ⟨hv,fva,ha,fa⟩ 0 es=es by simp [bH]];exact O4.out⟩
  case round=>
   obtain ⟨k,hk,rfl,hn,hO⟩:=hrel;have HO:Hid (wr.ownsRow v1.heap.size 121 6 (.slice (some ⟨g,0,none⟩) n cp) n (aR (bH ⟨hv,fva,ha,fa⟩ k es))):=hO;have lr:v4.heap.size<=wr.heap.size:=hn.size;clear p0 p1 p2;obtain ⟨⟨p0,p1,p2⟩,_,_,_⟩:=aA (aC P4.out hn (by omega));by_cases hlt:k<n
   ·obtain ⟨x,hx⟩:∃x,es[k]?=some x:=⟨_,List.getElem?_eq_getElem (by rw [HN.out];exact hlt)⟩;obtain ⟨b,off,rfl,hb⟩:∃b off,a=some ⟨b,off,none⟩∧b<w.heap.size:=by
     rcases HR0.out.2 with h | ⟨b,off,h,h2,_⟩
     ·omega
     ·exact ⟨b,off,h,h2⟩
    have CE:∀j u,j<6->(jr x)[j]?=some u->wr.cell? ⟨b,off+(k*6+j),none⟩=some u:=fun j u hj hu=>
     oh hn (Below.cell2 A4 (eu HR0.out HN.out k x hx j u hj hu) hb) (by omega) (by omega)
    obtain ⟨vv,lv,tg,asd,gl,pt⟩:=x;have g0:wr.cell? ⟨b,off+k*6,none⟩=some (.bool vv):=CE 0 _ (by omega) rfl;have g1:wr.cell? ⟨b,off+k*6+1,none⟩=some (.int .i64 lv):=CE 1 _ (by omega) rfl;have g2:wr.cell? ⟨b,off+k*6+2,none⟩=some (.int .u64 tg):=CE 2 _ (by omega) rfl;have g3:wr.cell? ⟨b,off+k*6+3,none⟩=some (.int .u64 asd):=CE 3 _ (by omega) rfl;have g4:wr.cell? ⟨b,off+k*6+4,none⟩=some (.bool gl):=CE 4 _ (by omega) rfl;have g5:wr.cell? ⟨b,off+k*6+5,none⟩=some (.int .u64 pt):=CE 5 _ (by omega) rfl;have hok:eU ⟨vv,lv,tg,asd,gl,pt⟩:=HOK.out.1 _ (List.mem_of_getElem? hx);have HNx:Hid (bH ⟨hv,fva,ha,fa⟩ (k+1) es=(bH ⟨hv,fva,ha,fa⟩ k es).set k (cj ⟨hv,fva,ha,fa⟩ ⟨vv,lv,tg,asd,gl,pt⟩)):=nU _ k es _ hx;have HSm:Hid ((bH ⟨hv,fva,ha,fa⟩ k es).set k ⟨vv,lv,tg,asd,gl,pt⟩=bH ⟨hv,fva,ha,fa⟩ k es):=by
     show _=_;apply List.ext_getElem?;intro j;rw [List.getElem?_set];by_cases hj:k=j
     ·subst hj;rw [if_pos rfl,if_pos (by rw [jj,HN.out];exact hlt)];unfold bH;have hkl:k<=es.length:=by rw [HN.out];omega
      rw [List.getElem?_append_right (by simp;omega),List.length_map,List.length_take,Nat.min_eq_left hkl,Nat.sub_self,List.getElem?_drop,Nat.add_zero,hx]
     ·rw [if_neg hj]
    have HLx:Hid (vv=true->0<=lv∧lv<=2):=fun h=>HL2.out k _ hx h;obtain ⟨⟨c0,c1,c2⟩,_,_,_⟩:=aA (aC P1.out hn (by omega));obtain ⟨⟨f0,f1,f2,f3⟩,_,_,_,_⟩:=az (aC P2.out hn (by omega));have u0:w.heap.size<wr.heap.size:=by omega
    have u1:w.heap.size+1<wr.heap.size:=by omega
    have u2:v2.heap.size<wr.heap.size:=by omega
    have n5:=(Below.refl wr.heap.size wr).alloc nle (Obj.cells #[.bool vv,.int .i64 lv,.int .u64 tg,.int .u64 asd,.bool gl,.int .u64 pt] 121);clear CE hx hO;cases vv
    ·have hst:cj ⟨hv,fva,ha,fa⟩ ⟨false,lv,tg,asd,gl,pt⟩=⟨false,lv,tg,asd,gl,pt⟩:=by simp [cj]
     go_wp2_with fail;go_roundw
     case rel=>exact ⟨k+1,by omega,by go_num,fE hn n5,by rw [HNx.out,hst,HSm.out];exact aj HO.out n5⟩
     case measure=>simp [intOf];omega
    ·obtain ⟨hl0,hl2⟩:=HLx.out rfl;obtain ⟨cb,hcb⟩:∃cb,il ⟨hv,fva,ha,fa⟩ lv tg asd gl=cb:=⟨_,rfl⟩;have HCov:Hid (∀w,Calls Tryz.prog 127 #[.agg #[.bool hv,.int .u64 fva,.bool ha,.int .u64 fa],.int .i64 lv,.int .u64 tg,.int .u64 asd,.bool gl] w fun e w'=>e=.returned (.bool cb)∧Bw w w'):=fun w=>by
      have:=uy ⟨hv,fva,ha,fa⟩ lv tg asd gl w hf0 hf1 hl0 hl2;rw [hcb] at this;exact this
     have HCb:Hid (il ⟨hv,fva,ha,fa⟩ lv tg asd gl=cb):=hcb;clear hcb;go_wp2_with fail;generalize wr.alloc (Obj.cells #[.bool true,.int .i64 lv,.int .u64 tg,.int .u64 asd,.bool gl,.int .u64 pt] 121)=v5 at n5 |-;refine (HCov.out v5).mono ?_;rintro e v6 ⟨rfl,n6⟩;have n56:=bst n5 n6;have hn6:=fE hn n56;have HO6:=hid (aj HO.out n56);clear g0 g1 g2 g3 g4 g5 c0 c1 c2 f0 f1 f2 f3 p0 p1 p2 n5 n6 HO hn;obtain ⟨⟨p0,p1,p2⟩,_,_,_⟩:=aA (aC P4.out hn6 (by omega));cases cb
     ·have hst:cj ⟨hv,fva,ha,fa⟩ ⟨true,lv,tg,asd,gl,pt⟩=⟨true,lv,tg,asd,gl,pt⟩:=by simp [cj,HCb.out]
      go_wp2_with fail;go_roundw
      case rel=>exact ⟨k+1,by omega,by go_num,hn6,by rw [HNx.out,hst,HSm.out];exact HO6.out⟩
      case measure=>simp [intOf];omega
     ·have hst:cj ⟨hv,fva,ha,fa⟩ ⟨true,lv,tg,asd,gl,pt⟩=cK:=by simp [cj,HCb.out]
      have hcl:(aR (bH ⟨hv,fva,ha,fa⟩ k es)).length=n*6:=by rw [fo,jj,HN.out]
      have q0:=aB HO6.out (k*6) _ (List.getElem?_eq_getElem (by omega));have q1:=aB HO6.out (k*6+1) _ (List.getElem?_eq_getElem (by omega));have q2:=aB HO6.out (k*6+2) _ (List.getElem?_eq_getElem (by omega));have q3:=aB HO6.out (k*6+3) _ (List.getElem?_eq_getElem (by omega));have q4:=aB HO6.out (k*6+4) _ (List.getElem?_eq_getElem (by omega));have q5:=aB HO6.out (k*6+5) _ (List.getElem?_eq_getElem (by omega));generalize (aR (bH ⟨hv,fva,ha,fa⟩ k es))[k*6]'_=y0 at q0;generalize (aR (bH ⟨hv,fva,ha,fa⟩ k es))[k*6+1]'_=y1 at q1;generalize (aR (bH ⟨hv,fva,ha,fa⟩ k es))[k*6+2]'_=y2 at q2;generalize (aR (bH ⟨hv,fva,ha,fa⟩ k es))[k*6+3]'_=y3 at q3;generalize (aR (bH ⟨hv,fva,ha,fa⟩ k es))[k*6+4]'_=y4 at q4;generalize (aR (bH ⟨hv,fva,ha,fa⟩ k es))[k*6+5]'_=y5 at q5;have r0:=aO HO6.out (k*6);have r1:=aO HO6.out (k*6+1);have r2:=aO HO6.out (k*6+2);have r3:=aO HO6.out (k*6+3);have r4:=aO HO6.out (k*6+4);have r5:=aO HO6.out (k*6+5);go_wp2_with fail;go_roundw
      case rel=>
       refine ⟨k+1,by omega,by go_num,ak (ak (ak (ak (ak (ak hn6 _ _) _ _) _ _) _ _) _ _) _ _,?_⟩;rw [HNx.out,hst,jI _ _ _ (by rw [jj,HN.out];exact hlt)];exact aF (aF (aF (aF (aF (aF HO6.out _ _) _ _) _ _) _ _) _ _) _ _
      case measure=>simp [intOf];omega
   ·have hkn:k=n:=by omega
    subst hkn;have hfl:X=⟨sets,ways,es.map (cj ⟨hv,fva,ha,fa⟩)⟩:=by rw [<-HX.out];unfold eI;rw [if_pos HEb.out]
    have hsn:bH ⟨hv,fva,ha,fa⟩ k es=es.map (cj ⟨hv,fva,ha,fa⟩):=by
     have hq:=HN.out;unfold bH;rw [<-hq,List.take_length,List.drop_length,List.append_nil]
    obtain ⟨⟨d0,d1,d2⟩,e0,e1,e2⟩:=aA (aC P3.out hn (by omega));go_wp2_with fail;refine bodyPost_ret (v:=.agg #[.int .i64 sets,.int .i64 ways,.slice (some ⟨g,0,none⟩) k cp]) (by simp [results,Tryz.results93,go_sem,d0,d1,d2]) rfl ⟨⟨_,rfl,?_⟩,fU (A4.grown hn (by have:=A4.size;omega) (fun q hq=>by cases hq;omega)) (by omega) _ _ _⟩;rw [hfl];refine ⟨g,cp,by simp only [List.length_map];rw [HN.out],?_⟩;simp only [List.length_map];rw [HN.out,<-hsn];exact aP (aI HO.out (gb3 wr (w.heap.size+1+1) _ _ _) (by omega)) (by omega)
end
end Go.Proofs.YtpdddbobhndbjaaGreat
