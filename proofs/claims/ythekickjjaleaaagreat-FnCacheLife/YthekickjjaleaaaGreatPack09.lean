import Derived.Test.YthekickjjaleaaaGreatPack07
import Derived.Test.YthekickjjaleaaaGreatPack08
import Derived.Test.YthekickjjaleaaaGreatPack05
import Derived.Test.YthekickjjaleaaaGreatPack06
import Derived.StillTailTactics
namespace Go.Proofs.YthekickjjaleaaaGreat
set_option linter.unusedVariables false
def e8 (zs:List Int):Prop:=∀i:Nat,0≤zs[i]?.getD 0∧zs[i]?.getD 0≤255
def ot (zs:List Int):Prop:=∀i:Nat,0≤zs[i]?.getD 0∧zs[i]?.getD 0≤18446744073709551615
def inU (x:Int):Prop:=0≤x∧x≤18446744073709551615
def kOk (k:KM):Prop:=dA k.i∧dA k.d∧dA k.p
structure HOk (h:HartM):Prop where
 valid:qY h=true
 mem:e8 h.mem
 regs:ot h.regs
 pc:inU h.pc
 satp:inU h.satp
 tvec:inU h.tvec
 epc:inU h.epc
 tval:inU h.tval
 ks:kOk h.k
structure ROk (r:RunM):Prop where
 h:HOk r.h
 cause:0≤r.cause∧r.cause≤63
 tval:inU r.tval
 looks:∀l∈r.looks,(0≤l.1∧l.1≤2)∧inU l.2
 fva:inU r.fence.va
 fas:inU r.fence.asid
structure VH (h:HartM):Prop where
 size:pr h.mem.length=true
 regs:h.regs.length=8
 zero:h.regs[0]?.getD 0=0
 mode:0≤h.mode∧h.mode≤2
 emode:0≤h.emode∧h.emode≤2
 satp:dO h.satp=true
 tvec:h.tvec%4=0
 cause:0≤h.cause∧h.cause≤63
 ks:bs h.k=true
theorem dp (h:HartM):qY h=true↔VH h:=by
 simp only [qY,t4,Bool.and_eq_true,decide_eq_true_eq,beq_iff_eq];constructor
 ·rintro ⟨⟨a,⟨⟨⟨⟨⟨⟨b,c⟩,d⟩,e⟩,f⟩,g⟩,i⟩⟩,j⟩;exact ⟨a,b,c,d,e,f,g,i,j⟩
 ·rintro ⟨a,b,c,d,e,f,g,i,j⟩;exact ⟨⟨a,⟨⟨⟨⟨⟨⟨b,c⟩,d⟩,e⟩,f⟩,g⟩,i⟩⟩,j⟩
theorem HOk.v {h:HartM} (k:HOk h):VH h:=(dp h).1 k.valid
theorem fc {n:Nat} (h:pr n=true):n%64=0∧64≤n∧n≤4096:=by simpa [pr] using h
theorem uU (pte level va:Int):inU (jW pte level va):=by
 have hp:0≤dy pte∧dy pte<17592186044416:=by unfold dy;omega
 unfold jW ph inU;split
 ·omega
 ·split
  ·omega
  ·split <;> omega
theorem ou (kind:Int):0≤gV kind∧gV kind≤63:=by unfold gV;split;omega;split <;> omega
theorem ov (kind:Int):0≤dJ kind∧dJ kind≤63:=by unfold dJ;split;omega;split <;> omega
theorem ru (pte level mode:Int) (sum mxr:Bool) (kind va:Int):(0≤(fU pte level mode sum mxr kind va).1∧(fU pte level mode sum mxr kind va).1≤63)∧inU (fU pte level mode sum mxr kind va).2:=by
 unfold fU;split
 ·exact ⟨⟨by simp,by simp⟩,uU _ _ _⟩
 ·exact ⟨ou kind,by simp [inU]⟩
theorem ow (r:Int × Int × Int × List eh) (mode:Int) (sum mxr:Bool) (kind va:Int):(0≤(el r mode sum mxr kind va).1∧(el r mode sum mxr kind va).1≤63)∧inU (el r mode sum mxr kind va).2:=by
 unfold el;split
 ·exact ⟨ou kind,by simp [inU]⟩
 ·split
  ·exact ⟨ov kind,by simp [inU]⟩
  ·exact ru _ _ _ _ _ _ _
theorem ud (zs:List Int) (mode:Int) (sum mxr:Bool) (satp kind va:Int) (hv:inU va):(0≤(ie zs mode sum mxr satp kind va).1∧(ie zs mode sum mxr satp kind va).1≤63)∧inU (ie zs mode sum mxr satp kind va).2:=by
 unfold ie;split
 ·exact ⟨⟨by simp,by simp⟩,by simp [inU]⟩
 ·split
  ·exact ⟨⟨by simp,by simp⟩,hv⟩
  ·exact ow _ _ _ _ _ _
theorem mF (zs:List Int) (mode:Int) (sum mxr:Bool) (satp:Int) (k:KM) (kind va pick:Int) (hz:e8 zs) (hk:kOk k) (hv:inU va):
 kOk (aW zs mode sum mxr satp k kind va pick).2∧(0≤(aW zs mode sum mxr satp k kind va pick).1.1∧(aW zs mode sum mxr satp k kind va pick).1.1≤63)∧inU (aW zs mode sum mxr satp k kind va pick).1.2:=by
 unfold aW;by_cases hb:bs k=false∨kind<0∨2<kind∨mode<0∨2<mode∨pick<0∨255<pick
 ·rw [if_pos hb];have h0:dA sk:=⟨fun e he=>absurd he (by simp [sk]),by simp [sk],by simp [sk],by simp [sk]⟩;exact ⟨⟨h0,h0,h0⟩,⟨by simp,by simp⟩,by simp [inU]⟩
 ·rw [if_neg hb];have hg:bs k=true:=by
   cases hh:bs k
   ·exact absurd (.inl hh) hb
   ·rfl
  split
  ·exact ⟨hk,⟨by simp,by simp⟩,hv⟩
  ·split
   ·exact ⟨hk,ou kind,by simp [inU]⟩
   ·split
    ·have:=ru (aY (gL k kind) va (aU satp)).2.2.2 (aY (gL k kind) va (aU satp)).2.2.1 mode sum mxr kind va;exact ⟨hk,this.1,this.2⟩
    ·simp only;have hgp:aI k.p true=true:=by simp only [bs,Bool.and_eq_true] at hg;exact hg.2
     obtain ⟨_,_,hl⟩:=kV zs satp va k.p (aU satp) hgp hk.2.2.1 hz;have ha:=ow (ck zs satp va (aY k.p va (aU satp))) mode sum mxr kind va;have hp:=qG va satp pick _ k.p hk.2.2 hl.recs;refine ⟨?_,ha.1,ha.2⟩;have ht:dA (gL k kind):=by unfold gL;split;exact hk.1;exact hk.2.1
     have hi:=lW pick ht (nm (ck zs satp va (aY k.p va (aU satp))).2.1 va satp (ck zs satp va (aY k.p va (aU satp))).2.2.1 hl.level hl.pte);split
     ·unfold vu;split
      ·exact ⟨hi,hk.2.1,hp⟩
      ·exact ⟨hk.1,hi,hp⟩
     ·exact ⟨hk.1,hk.2.1,hp⟩
theorem fZ {h:HartM} (hh:HOk h) (plain:Bool) {pick kind va:Int} (hp:0≤pick∧pick≤255) (hk:0≤kind∧kind≤2) (hv:inU va):
 HOk (dP h (bX plain pick h kind va).2)∧(0≤(bX plain pick h kind va).1.1∧(bX plain pick h kind va).1.1≤63)∧inU (bX plain pick h kind va).1.2:=by
 have v:=hh.v;cases plain
 ·have e:bX false pick h kind va=aW h.mem h.mode h.sum h.mxr h.satp h.k kind va pick:=rfl;rw [e];obtain ⟨t1,t2,t3⟩:=mF h.mem h.mode h.sum h.mxr h.satp h.k kind va pick hh.mem hh.ks hv;have tg:=pm h.mem h.mode h.sum h.mxr h.satp h.k kind va pick v.ks hk v.mode hp;refine ⟨⟨(dp _).2 ⟨v.size,v.regs,v.zero,v.mode,v.emode,v.satp,v.tvec,v.cause,tg⟩,hh.mem,hh.regs,hh.pc,hh.satp,hh.tvec,hh.epc,hh.tval,t1⟩,t2,t3⟩
 ·have e:bX true pick h kind va=(ie h.mem h.mode h.sum h.mxr h.satp kind va,h.k):=rfl;rw [e];have:=ud h.mem h.mode h.sum h.mxr h.satp kind va hv;exact ⟨hh,this.1,this.2⟩
theorem kM {r:RunM} (hr:ROk r) (plain:Bool) {pick kind va:Int} (hp:0≤pick∧pick≤255) (hk:0≤kind∧kind≤2) (hv:inU va):ROk (cA plain pick r kind va):=by
 refine ⟨(fZ hr.h plain hp hk hv).1,hr.cause,hr.tval,?_,hr.fva,hr.fas⟩;intro l hl;rcases List.mem_append.1 hl with hl | hl
 ·exact hr.looks l hl
 ·rw [List.mem_singleton] at hl;subst hl;exact ⟨hk,hv⟩
theorem fK {r:RunM} (hr:ROk r) {c t:Int} (hc:0≤c∧c≤63) (ht:inU t):ROk (co r c t):=⟨hr.h,hc,ht,hr.looks,hr.fva,hr.fas⟩
def dI (ps:List cL):Prop:=∀p∈ps,inU p.1∧(1≤p.2.1∧p.2.1≤8)∧inU p.2.2
theorem uV (va w:Int) (hv:inU va) (hw:1≤w∧w≤8):dI (gM va w):=by
 unfold inU at hv;unfold gM;split
 ·intro p hp;simp only [List.mem_cons,List.not_mem_nil,or_false] at hp;rcases hp with rfl | rfl
  ·exact ⟨hv,by simp only;omega,by simp [inU]⟩
  ·exact ⟨by simp only [inU];omega,by simp only;omega,by simp [inU]⟩
 ·intro p hp;simp only [List.mem_singleton] at hp;subst hp;exact ⟨hv,hw,by simp [inU]⟩
theorem jf (plain:Bool) {pick kind:Int} (hp:0≤pick∧pick≤255) (hk:0≤kind∧kind≤2):∀(ps:List cL) (r:RunM),ROk r→dI ps→ROk (a8 plain pick kind r ps).1∧dI (a8 plain pick kind r ps).2
 | [],r,hr,hs=>⟨hr,hs⟩
 | p::ps,r,hr,hs=>by
  have h1:=hs p (List.mem_cons_self ..);have hl:=kM hr plain hp hk h1.1;have ht:=fZ hr.h plain hp hk h1.1;rw [a8];split
  ·have:=jf plain hp hk ps _ hl (fun q hq=>hs q (List.mem_cons_of_mem _ hq));refine ⟨this.1,fun q hq=>?_⟩;rcases List.mem_cons.1 hq with rfl | hq
   ·exact ⟨h1.1,h1.2.1,ht.2.2⟩
   ·exact this.2 q hq
  ·exact ⟨fK hl ht.2.1 h1.1,hs⟩
theorem rx {mem:List Int}:∀{ps:List cL} {v:Int},lk mem ps=some v→∃p∈ps,p.1=v
 | p::ps,v,h=>by
  rw [lk] at h;split at h
  ·obtain ⟨q,hq,e⟩:=rx h;exact ⟨q,List.mem_cons_of_mem _ hq,e⟩
  ·cases h;exact ⟨p,List.mem_cons_self ..,rfl⟩
theorem gc (plain:Bool) {pick kind va w:Int} {r:RunM} (hp:0≤pick∧pick≤255) (hk:0≤kind∧kind≤2) (hv:inU va) (hw:1≤w∧w≤8) (hr:ROk r):ROk (aP plain pick r kind va w).1∧dI (aP plain pick r kind va w).2:=by
 have:=jf plain hp hk (gM va w) r hr (uV va w hv hw);unfold aP;generalize a8 plain pick kind r (gM va w)=z at this ⊢;split
 ·split
  ·exact this
  ·rename_i v ho;obtain ⟨p,hp',e⟩:=rx ho;exact ⟨fK this.1 (ov kind) (by rw [←e];exact (this.2 p hp').1),this.2⟩
 ·exact this
theorem uW {zs:List Int} (h:ot zs) (n:Nat) {x:Int} (hx:inU x):ot (zs.set n x):=by
 intro i;rw [List.getElem?_set];split
 ·split
  ·exact hx
  ·simp
 ·exact h i
theorem wS {h:HartM} (hr:ot h.regs) (a:Int):inU (fk h a):=hr a.toNat
theorem fA {r:RunM} (hr:ROk r) (a:Int) {x:Int} (hx:inU x):ROk (bZ r a x):=by
 have v:=hr.h.v;unfold bZ;by_cases ha:0<a
 ·rw [if_pos ha];refine ⟨⟨(dp _).2 ⟨v.size,by simp [bM,fO,v.regs],?_,v.mode,v.emode,v.satp,v.tvec,v.cause,v.ks⟩,hr.h.mem,uW hr.h.regs _ hx,hr.h.pc,hr.h.satp,hr.h.tvec,hr.h.epc,hr.h.tval,hr.h.ks⟩,hr.cause,hr.tval,hr.looks,hr.fva,hr.fas⟩;show (r.h.regs.set a.toNat x)[0]?.getD 0=0;rw [List.getElem?_set_ne (by omega)];exact v.zero
 ·rw [if_neg ha];exact hr
theorem wi {r:RunM} (hr:ROk r) {m:List Int} (hl:m.length=r.h.mem.length) (hm:e8 m):ROk (bM r (lj r.h m)):=by
 have v:=hr.h.v;exact ⟨⟨(dp _).2 ⟨by show pr m.length=true;rw [hl];exact v.size,v.regs,v.zero,v.mode,v.emode,v.satp,v.tvec,v.cause,v.ks⟩,hm,hr.h.regs,hr.h.pc,hr.h.satp,hr.h.tvec,hr.h.epc,hr.h.tval,hr.h.ks⟩,hr.cause,hr.tval,hr.looks,hr.fva,hr.fas⟩
theorem ue {zs ys:List Int} {k:Nat} (h:e8 zs) (hy:∀y∈ys,0≤y∧y≤255):e8 (put zs k ys):=by
 refine cV fun z hz=>?_;unfold put at hz;rw [List.append_assoc,List.mem_append,List.mem_append] at hz;rcases hz with hz | hz | hz
 ·exact dB h z (List.mem_of_mem_take hz)
 ·exact hy z hz
 ·exact dB h z (List.mem_of_mem_drop hz)
theorem ry {mem:List Int}:∀{ps:List cL},lk mem ps=none→∀p∈ps,it mem.length p.2.2 p.2.1=true
 | p::ps,h,q,hq=>by
  rw [lk] at h;split at h
  ·rcases List.mem_cons.1 hq with rfl | hq
   ·assumption
   ·exact ry h q hq
  ·cases h
theorem jg {plain:Bool} {pick kind va w:Int} {r:RunM} (h0:(aP plain pick r kind va w).1.cause=0):∀p∈(aP plain pick r kind va w).2,it (aP plain pick r kind va w).1.h.mem.length p.2.2 p.2.1=true:=by
 unfold aP at h0 ⊢;generalize a8 plain pick kind r (gM va w)=z at h0 ⊢;by_cases hc:z.1.cause=0
 ·rw [if_pos hc] at h0 ⊢;cases ho:lk z.1.h.mem z.2 with
  | none=>
   exact ry ho
  | some v=>
   rw [ho] at h0;exact absurd h0 (kw kind)
 ·rw [if_neg hc] at h0;exact absurd h0 hc
theorem uX:∀(ps:List cL) (mem b:List Int),e8 mem→(∀y∈b,0≤y∧y≤255)→(∀p∈ps,it mem.length p.2.2 p.2.1=true)→dI ps→(jC mem ps b).length=mem.length∧e8 (jC mem ps b)
 | [],mem,b,hm,hb,hi,hs=>⟨rfl,hm⟩
 | p::ps,mem,b,hm,hb,hi,hs=>by
  have h1:=hi p (List.mem_cons_self ..);have h2:=(hs p (List.mem_cons_self ..)).2;simp only [it,decide_eq_true_eq] at h1;obtain ⟨h21,h22⟩:=h2;unfold inU at h22;have hl:(put mem p.2.2.toNat (b.take p.2.1.toNat)).length=mem.length:=wn mem _ _ (by rw [List.length_take];omega);rw [jC];have:=uX ps (put mem p.2.2.toNat (b.take p.2.1.toNat)) (b.drop p.2.1.toNat) (ue hm fun y hy=>hb y (List.mem_of_mem_take hy)) (fun y hy=>hb y (List.mem_of_mem_drop hy)) (fun q hq=>by rw [hl];exact hi q (List.mem_cons_of_mem _ hq)) (fun q hq=>hs q (List.mem_cons_of_mem _ hq));rw [hl] at this;exact this
theorem iJ {mem:List Int} (hm:e8 mem):∀(ps:List cL),∀z∈cW mem ps,0≤z∧z≤255
 | p::ps,z,hz=>by
  rw [cW,List.mem_append] at hz;rcases hz with hz | hz
  ·exact dB hm z (List.mem_of_mem_drop (List.mem_of_mem_take hz))
  ·exact iJ hm ps z hz
def fL:List cL→Int
 | []=>0
 | p::ps=>p.2.1+fL ps
theorem h9 (mem:List Int):∀(ps:List cL),dI ps→((cW mem ps).length:Int)≤fL ps
 | [],_=>by simp [cW,fL]
 | p::ps,h=>by
  have h1:=(h p (List.mem_cons_self ..)).2.1;have:=h9 mem ps fun q hq=>h q (List.mem_cons_of_mem _ hq);rw [cW,fL,List.length_append,List.length_take];omega
theorem jh (plain:Bool) (pick kind:Int):∀(ps:List cL) (r:RunM),fL (a8 plain pick kind r ps).2=fL ps
 | [],r=>rfl
 | p::ps,r=>by
  rw [a8];split
  ·rw [fL,fL,jh plain pick kind ps _]
  ·rfl
theorem io (plain:Bool) (pick kind va w:Int) (r:RunM):fL (aP plain pick r kind va w).2=w:=by
 have hc:fL (gM va w)=w:=by
  unfold gM;split <;> simp only [fL] <;> omega
 have:=jh plain pick kind (gM va w) r;unfold aP;generalize a8 plain pick kind r (gM va w)=z at this ⊢;split
 ·split <;> (rw [this,hc])
 ·rw [this,hc]
theorem uY {mem:List Int} (hm:e8 mem) {ps:List cL} (hs:dI ps) (hl:fL ps≤8):inU (jb mem ps):=by
 have h1:=h9 mem ps hs;have:=lU (cW mem ps) 8 (iJ hm ps) (by omega);unfold jb inU;have e:(256:Int)^8=18446744073709551616:=by decide
 omega
theorem fo (x:Int):inU (x%18446744073709551616):=by unfold inU;omega
theorem ox {t:RunM × List cL} (hr:ROk t.1) (hs:dI t.2) (hi:∀p∈t.2,it t.1.h.mem.length p.2.2 p.2.1=true) (x:Int) (n:Nat):ROk (dh t (dK x n)):=by
 have:=uX t.2 t.1.h.mem (dK x n) hr.h.mem (iK n x) hi hs;exact wi hr this.1 this.2
theorem jI (c:Int) (hc:0≤c):1≤iD (c%4)∧iD (c%4)≤8:=by
 unfold iD;rcases (show c%4=0∨c%4=1∨c%4=2∨c%4=3 by omega) with h | h | h | h <;> rw [h] <;> decide
theorem uZ (plain:Bool) {pick ea w a:Int} {r:RunM} (hp:0≤pick∧pick≤255) (hv:inU ea) (hw:1≤w∧w≤8) (hr:ROk r):ROk (vy plain pick r ea w a):=by
 obtain ⟨h1,h2⟩:=gc plain hp (kind:=1) (by omega) hv hw hr;have h3:=io plain pick 1 ea w r;unfold vy;generalize aP plain pick r 1 ea w=z at h1 h2 h3 ⊢;split
 ·exact fA h1 a (uY h1.h.mem h2 (by omega))
 ·exact h1
theorem uf (plain:Bool) {pick ea w x:Int} {r:RunM} (hp:0≤pick∧pick≤255) (hv:inU ea) (hw:1≤w∧w≤8) (hr:ROk r):ROk (tl plain pick r ea w x):=by
 obtain ⟨h1,h2⟩:=gc plain hp (kind:=2) (by omega) hv hw hr;have h4:=@jg plain pick 2 ea w r;unfold tl;generalize aP plain pick r 2 ea w=z at h1 h2 h4 ⊢;split
 ·rename_i h0;exact ox h1 h2 (h4 h0) _ _
 ·exact h1
theorem wj (plain:Bool) {pick ea a x:Int} {r:RunM} (hp:0≤pick∧pick≤255) (hv:inU ea) (hr:ROk r):ROk (wZ plain pick r ea a x):=by
 obtain ⟨h1,h2⟩:=gc plain hp (kind:=2) (by omega) hv (w:=8) (by omega) hr;have h3:=io plain pick 2 ea 8 r;have h4:=@jg plain pick 2 ea 8 r;unfold wZ;generalize aP plain pick r 2 ea 8=z at h1 h2 h3 h4 ⊢;split
 ·rename_i h0;exact fA (ox h1 h2 (h4 h0) _ _) a (uY h1.h.mem h2 (by omega))
 ·exact h1
theorem gk {t:TlbM} {f:FenceM} (h:dA t):dA (dg t f):=by
 unfold dg;split
 ·refine ⟨fun e he=>?_,h.2.1,h.2.2.1,by simpa using h.2.2.2⟩;simp only [List.mem_map] at he;obtain ⟨y,hy,rfl⟩:=he;unfold bW;split
  ·simp [da,bQ]
  ·exact h.1 y hy
 ·exact h
theorem wT (plain:Bool) {pick pc op a b c s word:Int} {r:RunM} (hp:0≤pick∧pick≤255) (hc:0≤c) (hw:inU word) (hr:ROk r):ROk (doM plain pick r pc op a b c s word):=by
 have v:=hr.h.v;have rg:=fun x=>wS hr.h.regs x;have hea:inU (eaM r.h b s):=fo _;unfold doM;by_cases hi:ct op c r.h.mode=true
 ·rw [if_pos hi];exact fK hr (by omega) hw
 rw [if_neg hi];by_cases o1:op=1
 ·rw [if_pos o1];exact fA hr _ (fo _)
 rw [if_neg o1];by_cases o2:op=2
 ·rw [if_pos o2];exact fA hr _ (fo _)
 rw [if_neg o2];by_cases o3:op=3
 ·rw [if_pos o3];exact fA hr _ hea
 rw [if_neg o3];by_cases o4:op=4
 ·rw [if_pos o4];exact fA hr _ (fo _)
 rw [if_neg o4];by_cases o5:op=5
 ·rw [if_pos o5];exact uZ plain hp hea (jI c hc) hr
 rw [if_neg o5];by_cases o6:op=6
 ·rw [if_pos o6];exact uf plain hp hea (jI c hc) hr
 rw [if_neg o6];by_cases o7:op=7
 ·rw [if_pos o7];exact wj plain hp hea hr
 rw [if_neg o7];by_cases o8:op=8
 ·rw [if_pos o8];split
  ·exact hr
  ·exact ⟨⟨(dp _).2 ⟨v.size,v.regs,v.zero,v.mode,v.emode,v.satp,v.tvec,v.cause,v.ks⟩,hr.h.mem,hr.h.regs,fo _,hr.h.satp,hr.h.tvec,hr.h.epc,hr.h.tval,hr.h.ks⟩,hr.cause,hr.tval,hr.looks,hr.fva,hr.fas⟩
 rw [if_neg o8];by_cases o9:op=9
 ·rw [if_pos o9];split
  ·rename_i hs;exact ⟨⟨(dp _).2 ⟨v.size,v.regs,v.zero,v.mode,v.emode,hs,v.tvec,v.cause,v.ks⟩,hr.h.mem,hr.h.regs,hr.h.pc,rg a,hr.h.tvec,hr.h.epc,hr.h.tval,hr.h.ks⟩,hr.cause,hr.tval,hr.looks,hr.fva,hr.fas⟩
  ·exact hr
 rw [if_neg o9];by_cases o10:op=10
 ·rw [if_pos o10];exact ⟨⟨(dp _).2 ⟨v.size,v.regs,v.zero,v.mode,v.emode,v.satp,v.tvec,v.cause,v.ks⟩,hr.h.mem,hr.h.regs,hr.h.pc,hr.h.satp,hr.h.tvec,hr.h.epc,hr.h.tval,hr.h.ks⟩,hr.cause,hr.tval,hr.looks,hr.fva,hr.fas⟩
 rw [if_neg o10];by_cases o11:op=11
 ·rw [if_pos o11];have rb:=rg b;have hfas:inU (lm r.h a b).asid:=by unfold inU at rb ⊢;show 0≤fk r.h b%65536∧fk r.h b%65536≤_;omega
  cases plain
  ·exact ⟨⟨(dp _).2 ⟨v.size,v.regs,v.zero,v.mode,v.emode,v.satp,v.tvec,v.cause,rY _ _ v.ks⟩,hr.h.mem,hr.h.regs,hr.h.pc,hr.h.satp,hr.h.tvec,hr.h.epc,hr.h.tval,gk hr.h.ks.1,gk hr.h.ks.2.1,gk hr.h.ks.2.2⟩,hr.cause,hr.tval,hr.looks,rg a,hfas⟩
  ·exact ⟨hr.h,hr.cause,hr.tval,hr.looks,rg a,hfas⟩
 rw [if_neg o11];by_cases o12:op=12
 ·rw [if_pos o12];exact ⟨⟨(dp _).2 ⟨v.size,v.regs,v.zero,v.emode,v.emode,v.satp,v.tvec,v.cause,v.ks⟩,hr.h.mem,hr.h.regs,fo _,hr.h.satp,hr.h.tvec,hr.h.epc,hr.h.tval,hr.h.ks⟩,hr.cause,hr.tval,hr.looks,hr.fva,hr.fas⟩
 rw [if_neg o12];by_cases o13:op=13
 ·rw [if_pos o13];have hc2:c≤2:=by
   simp only [ct,Bool.or_eq_true,decide_eq_true_eq,not_or] at hi;omega
  exact ⟨⟨(dp _).2 ⟨v.size,v.regs,v.zero,v.mode,⟨hc,hc2⟩,v.satp,v.tvec,v.cause,v.ks⟩,hr.h.mem,hr.h.regs,hr.h.pc,hr.h.satp,hr.h.tvec,rg a,hr.h.tval,hr.h.ks⟩,hr.cause,hr.tval,hr.looks,hr.fva,hr.fas⟩
 rw [if_neg o13];have hmd:=v.mode;by_cases o14:op=14
 ·rw [if_pos o14];exact fK hr (by omega) (by simp [inU])
 rw [if_neg o14];exact fK hr (by omega) hw
theorem qD {r:RunM} (hr:ROk r):ROk (bM r (fj r.h ((r.h.pc+4)%18446744073709551616))):=by
 have v:=hr.h.v;exact ⟨⟨(dp _).2 ⟨v.size,v.regs,v.zero,v.mode,v.emode,v.satp,v.tvec,v.cause,v.ks⟩,hr.h.mem,hr.h.regs,fo _,hr.h.satp,hr.h.tvec,hr.h.epc,hr.h.tval,hr.h.ks⟩,hr.cause,hr.tval,hr.looks,hr.fva,hr.fas⟩
theorem wk (plain:Bool) {pick x:Int} {r:RunM} (hp:0≤pick∧pick≤255) (hx:inU x) (hr:ROk r):ROk (pR plain pick r x):=by
 have hr':=qD hr;unfold pR eI;generalize bM r (fj r.h ((r.h.pc+4)%18446744073709551616))=y at hr' ⊢;exact wT plain hp (by omega) hx hr'
theorem rz (plain:Bool) {pick:Int} {r:RunM} (hp:0≤pick∧pick≤255) (hr:ROk r):ROk (iE plain pick r):=by
 have ht:=fZ hr.h plain hp (kind:=0) (by omega) hr.h.pc;have hl:=kM hr plain hp (kind:=0) (by omega) hr.h.pc;have hx:inU (vH plain pick r.h):=lX _ _ 4 (by omega) hr.h.mem;unfold iE;generalize cA plain pick r 0 r.h.pc=z at hl ⊢;split
 ·split
  ·split
   ·exact wk plain hp hx hl
   ·exact fK hl (by omega) hr.h.pc
  ·exact fK hl ht.2.1 hr.h.pc
 ·exact fK hr (by omega) hr.h.pc
theorem ip {t:TlbM} {n:Int} (h:dA t):dA (bI t n):=by
 refine ⟨fun e he=>?_,h.2.1,h.2.2.1,by simpa [bI] using h.2.2.2⟩;rcases List.mem_or_eq_of_mem_set he with he | rfl
 ·exact h.1 e he
 ·simp [da,bQ]
theorem lT (plain:Bool) (pick:Int) {h:HartM} (hh:HOk h):ROk (db plain pick h):=by
 have v:=hh.v;refine ⟨⟨(dp _).2 ⟨v.size,v.regs,v.zero,v.mode,v.emode,v.satp,v.tvec,v.cause,te plain pick _ v.ks⟩,hh.mem,hh.regs,hh.pc,hh.satp,hh.tvec,hh.epc,hh.tval,?_⟩,⟨by simp [db],by simp [db]⟩,by simp [db,inU],fun l hl=>by simp [db] at hl,by simp [db,dS,inU],by simp [db,dS,inU]⟩;show kOk (ky plain pick h.k);unfold ky;split
 ·exact ⟨ip hh.ks.1,ip hh.ks.2.1,ip hh.ks.2.2⟩
 ·exact hh.ks
theorem u4 (plain:Bool) {pick:Int} {h:HartM} (hp:0≤pick∧pick≤255) (hh:HOk h):ROk (ln plain pick h):=by
 have hb:=rz plain hp (lT plain pick hh);have v:=hh.v;have vb:=hb.h.v;unfold ln vJ;generalize iE plain pick (db plain pick h)=z at hb vb ⊢;split
 ·exact hb
 ·exact ⟨⟨(dp _).2 ⟨v.size,v.regs,v.zero,by simp [bM,dv],v.mode,v.satp,v.tvec,hb.cause,vb.ks⟩,hh.mem,hh.regs,hh.tvec,hh.satp,hh.tvec,hh.pc,hb.tval,hb.h.ks⟩,hb.cause,hb.tval,hb.looks,hb.fva,hb.fas⟩
end Go.Proofs.YthekickjjaleaaaGreat

namespace Go.Proofs.YthekickjjaleaaaGreat
open Go.RowKit
set_option linter.unusedVariables false
attribute [local go_sem ↓] Go.wp_at_zero Go.wp_at_succ
def qS (f:FenceM):Value:=.agg #[.bool f.hasVa,.int .u64 f.va,.bool f.hasAsid,.int .u64 f.asid]
set_option maxHeartbeats 1600000 in
theorem qT (f:FenceM) (level tag asid:Int) (glob:Bool) (w:World) (h0:0≤f.va) (h1:f.va≤18446744073709551615) (hl0:0≤level) (hl2:level≤2):
 Calls Tryz.prog 134 #[qS f,.int .i64 level,.int .u64 tag,.int .u64 asid,.bool glob] w fun e w'=>e=.returned (.bool (fd f level tag asid glob))∧Below w.heap.size w w':=by
 obtain ⟨hv,va,ha,fa⟩:=f;simp only at h0 h1;unfold qS;simp only;have n1:=(Below.refl w.heap.size w).alloc (Nat.le_refl _) (Obj.cells #[.bool hv,.int .u64 va,.bool ha,.int .u64 fa] 51);obtain ⟨cn,hcn⟩:∃cn,cU va=cn:=⟨_,rfl⟩;obtain ⟨tv,htv⟩:∃tv,ev va level=tv:=⟨_,rfl⟩;have HC:Hid (∀w:World,Calls Tryz.prog 24 #[.int .u64 va] w fun e w'=>e=.returned (.bool cn)∧∃n,w'=w.drewN n):=fun w=>by
  have:=di va w h0 h1;rw [hcn] at this;exact this
 have HT:Hid (∀w:World,Calls Tryz.prog 133 #[.int .u64 va,.int .i64 level] w fun e w'=>e=.returned (.int .u64 tv)∧∃n,w'=w.drewN n):=fun w=>by
  have:=oU va level w h0 h1 hl0 hl2;rw [htv] at this;exact this
 obtain ⟨R,hR⟩:∃R,fd ⟨hv,va,ha,fa⟩ level tag asid glob=R:=⟨_,rfl⟩;rw [hR];have HR:Hid (R=(!(hv && (!cn || tag != tv)) && (!ha || (!glob && asid == fa)))):=by
  show _=_;rw [←hR,←hcn,←htv];rfl
 clear hR hcn htv;cases hv
 ·cases ha <;> cases glob;all_goals
   go_enter Tryz.func134,Tryz.ntmps134;go_wp2_with fail;go_ret;exact ⟨aF (by rw [HR.out];simp),n1⟩
 ·cases cn
  ·go_enter Tryz.func134,Tryz.ntmps134;go_wp2_with (go_at_call 24;refine (HC.out _).mono ?_;rintro e w' ⟨rfl,nq,rfl⟩);go_ret;exact ⟨aF (by rw [HR.out];simp),below_drewN n1 _⟩
  ·cases ht:(tag != tv)
   ·cases ha <;> cases glob;all_goals
     go_enter Tryz.func134,Tryz.ntmps134;go_wp2_with (first
      | (go_at_call 24;refine (HC.out _).mono ?_;rintro e w' ⟨rfl,nq,rfl⟩)
      | (go_at_call 133;refine (HT.out _).mono ?_;rintro e w' ⟨rfl,nr,rfl⟩))
     go_ret;exact ⟨aF (by rw [HR.out,ht];simp),below_drewN n1 (nq+nr)⟩
   ·go_enter Tryz.func134,Tryz.ntmps134;go_wp2_with (first
     | (go_at_call 24;refine (HC.out _).mono ?_;rintro e w' ⟨rfl,nq,rfl⟩)
     | (go_at_call 133;refine (HT.out _).mono ?_;rintro e w' ⟨rfl,nr,rfl⟩))
    go_ret;exact ⟨aF (by rw [HR.out,ht];simp),below_drewN n1 (nq+nr)⟩
end Go.Proofs.YthekickjjaleaaaGreat

namespace Go.Proofs.YthekickjjaleaaaGreat
open Go.RowKit
set_option linter.unusedVariables false
theorem aC {e:TypeId} {size:Nat} {w:World} {base g n cap:Nat} {cs:List Value} (h:w.ownsRow base e size (.slice (some ⟨g,0,none⟩) n cap) n cs) (j:Nat) (u:Value):
 (w.setCell ⟨g,j,none⟩ u).ownsRow base e size (.slice (some ⟨g,0,none⟩) n cap) n (cs.set j u):=by
 obtain ⟨h1,h2⟩:=h;refine ⟨by simpa using h1,?_⟩;rcases h2 with ⟨h2,_⟩ | ⟨g',cap',cur,h2,hb,hg,hc1,hc2,hc3,ht⟩
 ·cases h2
 ·cases h2;refine .inr ⟨g,cap,cur.setIfInBounds j u,rfl,hb,by simp [World.setCell,Array.getElem?_modify,hg],hc1,hc2,by simpa using hc3,?_⟩;subst ht;rw [Array.toList_setIfInBounds,List.take_set]
theorem aB {e:TypeId} {size:Nat} {w:World} {base g n cap:Nat} {cs:List Value} (h:w.ownsRow base e size (.slice (some ⟨g,0,none⟩) n cap) n cs) (j:Nat) (u:Value) (hj:cs[j]?=some u):w.cell? ⟨g,j,none⟩=some u:=
 (CurAt.of_own h).1.cell j u hj
theorem aJ {e:TypeId} {size:Nat} {w:World} {base g n cap:Nat} {cs:List Value} (h:w.ownsRow base e size (.slice (some ⟨g,0,none⟩) n cap) n cs) (j:Nat):w.frozen? ⟨g,j,none⟩=false:=
 (CurAt.of_own h).1.free j
theorem eW {a b c:World} {r:Option Nat} (h:a.grownBy b r) (k:Below b.heap.size b c):a.grownBy c r:=
 ⟨k.os.trans h.os,k.tape.trans h.tape,k.output.trans h.output,Nat.le_trans h.size k.size,fun i hi hn=>(k.block i (Nat.lt_of_lt_of_le hi h.size)).trans (h.block i hi hn)⟩
theorem kW {a b:World} {r g o:Nat} {x:Option Value} (h:a.grownBy b (some r)) (hc:a.cell? ⟨g,o,none⟩=x) (hg:g<a.heap.size) (hne:g≠r):b.cell? ⟨g,o,none⟩=x:=
 (World.cell?_of_block (h.block g hg (by simpa using hne))).trans hc
theorem vn {a b:World} {r n size:Nat} {q:Option Addr} {cs:List Value} (h:RowC a q n size cs) (hg:a.grownBy b (some r)) (hr:a.heap.size≤r∨∀x,q=some x→x.block≠r):RowC b q n size cs:=by
 obtain ⟨h1,h2⟩:=h;refine ⟨h1,?_⟩;rcases h2 with h2 | ⟨bk,off,rfl,hlt,hc⟩
 ·exact .inl h2
 ·refine .inr ⟨bk,off,rfl,Nat.lt_of_lt_of_le hlt hg.size,fun i u hu=>?_⟩;exact kW hg (hc i u hu) hlt (by
   rcases hr with hr | hr
   ·omega
   ·exact hr _ rfl)
end Go.Proofs.YthekickjjaleaaaGreat

namespace Go.Proofs.YthekickjjaleaaaGreat
open Go.RowKit
set_option linter.unusedVariables false
attribute [local go_sem ↓] Go.wp_at_zero Go.wp_at_succ
def bq (f:FenceM) (k:Nat) (es:List EntM):List EntM:=(es.take k).map (bW f)++es.drop k
theorem hJ (f:FenceM) (k:Nat) (es:List EntM):(bq f k es).length=es.length:=by
 simp [bq];omega
theorem kS (f:FenceM) (k:Nat) (es:List EntM) (x:EntM) (hx:es[k]?=some x):bq f (k+1) es=(bq f k es).set k (bW f x):=by
 obtain ⟨hk,rfl⟩:=List.getElem?_eq_some_iff.1 hx;unfold bq;apply List.ext_getElem?;intro j;rw [List.getElem?_set];by_cases hj:k=j
 ·subst hj;rw [if_pos rfl,if_pos (by simp;omega),List.getElem?_append_left (by simp;omega)];simp [hk]
 ·rw [if_neg hj];by_cases hlt:j<k
  ·rw [List.getElem?_append_left (by simp;omega),List.getElem?_append_left (by simp;omega)];simp [hlt,show j<k+1 by omega]
  ·rw [List.getElem?_append_right (by simp;omega),List.getElem?_append_right (by simp;omega)];simp;rw [show min (k+1) es.length=k+1 by omega,show min k es.length=k by omega];congr 1;omega
theorem fC:∀(l:List EntM) (k:Nat) (e:EntM),k<l.length→aG (l.set k e)=((((((aG l).set (k*6) (.bool e.valid)).set (k*6+1) (.int .i64 e.level)).set (k*6+2) (.int .u64 e.tag)).set (k*6+3) (.int .u64 e.asid)).set (k*6+4) (.bool e.glob)).set (k*6+5) (.int .u64 e.pte)
 | x::r,0,e,h=>by simp [aG,gX]
 | x::r,k+1,e,h=>by
  have ih:=fC r k e (by simpa using h);rw [List.set_cons_succ];simp only [aG,ih];rw [show (k+1)*6=(gX x).length+k*6 by simp [gX];omega];simp only [Nat.add_assoc];rw [List.set_append_right _ _ (by simp [gX]),List.set_append_right _ _ (by omega),List.set_append_right _ _ (by omega),List.set_append_right _ _ (by omega),List.set_append_right _ _ (by omega),List.set_append_right _ _ (by omega)];simp
set_option maxRecDepth 20000 in
set_option maxHeartbeats 3200000 in
theorem ia (v:Value) (t:TlbM) (f:FenceM) (w:World) (h:TlbAt w v t) (hf0:0≤f.va) (hf1:f.va≤18446744073709551615):
 Calls Tryz.prog 225 #[v,qS f] w fun e w'=>(∃x,e=.returned x∧TlbOwn w.heap.size w' x (dg t f))∧Below w.heap.size w w':=by
 have HT:Hid (TlbAt w v t):=h;have HOK:Hid (dA t):=TlbAt.ok h;obtain ⟨a,cap,rfl,hr,_,_,_,hl,hlc,hcm,hnil,hsp⟩:=h;obtain ⟨eb,heb⟩:∃eb,cN t=eb:=⟨_,rfl⟩;have HEb:Hid (cN t=eb):=heb;obtain ⟨sets,ways,es⟩:=t;obtain ⟨hv,fva,ha,fa⟩:=f;obtain ⟨n,hn⟩:∃n,es.length=n:=⟨_,rfl⟩;simp only at hr hl hlc hnil hf0 hf1 HT ⊢;have HN:Hid (es.length=n):=hn;rw [hn] at hr hl hlc hnil HT ⊢;obtain ⟨X,hX⟩:∃X,dg ⟨sets,ways,es⟩ ⟨hv,fva,ha,fa⟩=X:=⟨_,rfl⟩;have HX:Hid (dg ⟨sets,ways,es⟩ ⟨hv,fva,ha,fa⟩=X):=hX;rw [hX];have HR0:Hid (RowC w a n 6 (aG es)):=hr;have HLv:Hid (eb=true→∀(j:Nat) x,es[j]?=some x→x.valid=true→0≤x.level∧x.level≤2):=fun h j x hx hv=>ei (t:=⟨sets,ways,es⟩) (heb.trans h) j x hx hv;clear hX;unfold qS;simp only;have n1:=(((Below.refl w.heap.size w).alloc (Nat.le_refl _) (Obj.cells #[.int .i64 sets,.int .i64 ways,.slice a n cap] 41)).alloc (by simp) (Obj.cells #[.bool hv,.int .u64 fva,.bool ha,.int .u64 fa] 51)).alloc (by simp;omega) (Obj.cells #[.int .i64 0,.int .i64 0,.slice none 0 0] 41);have HT1:Hid (TlbAt (((w.alloc (Obj.cells #[.int .i64 sets,.int .i64 ways,.slice a n cap] 41)).alloc (Obj.cells #[.bool hv,.int .u64 fva,.bool ha,.int .u64 fa] 51)).alloc (Obj.cells #[.int .i64 0,.int .i64 0,.slice none 0 0] 41)) (.agg #[.int .i64 sets,.int .i64 ways,.slice a n cap]) ⟨sets,ways,es⟩):=HT.out.keep n1;have HR1:Hid (RowC (((w.alloc (Obj.cells #[.int .i64 sets,.int .i64 ways,.slice a n cap] 41)).alloc (Obj.cells #[.bool hv,.int .u64 fva,.bool ha,.int .u64 fa] 51)).alloc (Obj.cells #[.int .i64 0,.int .i64 0,.slice none 0 0] 41)) a n 6 (aG es)):=hr.keep n1;have H1:Hid ((((w.alloc (Obj.cells #[.int .i64 sets,.int .i64 ways,.slice a n cap] 41)).alloc (Obj.cells #[.bool hv,.int .u64 fva,.bool ha,.int .u64 fa] 51)).alloc (Obj.cells #[.int .i64 0,.int .i64 0,.slice none 0 0] 41)).heap[w.heap.size]?=some (.cells #[.int .i64 sets,.int .i64 ways,.slice a n cap] 41 (0,0))):=by
  show _=_;rw [heap_alloc_old _ _ (by simp;omega),heap_alloc_old _ _ (by simp)];exact heap_alloc_new w _
 have H2:Hid ((((w.alloc (Obj.cells #[.int .i64 sets,.int .i64 ways,.slice a n cap] 41)).alloc (Obj.cells #[.bool hv,.int .u64 fva,.bool ha,.int .u64 fa] 51)).alloc (Obj.cells #[.int .i64 0,.int .i64 0,.slice none 0 0] 41)).heap[w.heap.size+1]?=some (.cells #[.bool hv,.int .u64 fva,.bool ha,.int .u64 fa] 51 (0,0))):=by
  show _=_;rw [heap_alloc_old _ _ (by simp)];have:=heap_alloc_new (w.alloc (Obj.cells #[.int .i64 sets,.int .i64 ways,.slice a n cap] 41)) (Obj.cells #[.bool hv,.int .u64 fva,.bool ha,.int .u64 fa] 51);simp only [World.size_alloc] at this;exact this
 have H3:Hid ((((w.alloc (Obj.cells #[.int .i64 sets,.int .i64 ways,.slice a n cap] 41)).alloc (Obj.cells #[.bool hv,.int .u64 fva,.bool ha,.int .u64 fa] 51)).alloc (Obj.cells #[.int .i64 0,.int .i64 0,.slice none 0 0] 41)).heap[w.heap.size+1+1]?=some (.cells #[.int .i64 0,.int .i64 0,.slice none 0 0] 41 (0,0))):=by
  have:=heap_alloc_new ((w.alloc (Obj.cells #[.int .i64 sets,.int .i64 ways,.slice a n cap] 41)).alloc (Obj.cells #[.bool hv,.int .u64 fva,.bool ha,.int .u64 fa] 51)) (Obj.cells #[.int .i64 0,.int .i64 0,.slice none 0 0] 41);simp only [World.size_alloc] at this;exact this
 have l1:w.heap.size+1+1<(((w.alloc (Obj.cells #[.int .i64 sets,.int .i64 ways,.slice a n cap] 41)).alloc (Obj.cells #[.bool hv,.int .u64 fva,.bool ha,.int .u64 fa] 51)).alloc (Obj.cells #[.int .i64 0,.int .i64 0,.slice none 0 0] 41)).heap.size:=by simp
 clear hr hnil hsp HT heb hn;go_enter Tryz.func225,Tryz.ntmps225;go_wp2_with fail;generalize (((w.alloc (Obj.cells #[.int .i64 sets,.int .i64 ways,.slice a n cap] 41)).alloc (Obj.cells #[.bool hv,.int .u64 fva,.bool ha,.int .u64 fa] 51)).alloc (Obj.cells #[.int .i64 0,.int .i64 0,.slice none 0 0] 41))=v1 at n1 HT1 HR1 H1 H2 H3 l1 ⊢;refine (fe _ ⟨sets,ways,es⟩ v1 HT1.out).mono ?_;rintro e v2 ⟨⟨x,rfl,g,cp,rfl,o2⟩,n2⟩;simp only at o2 ⊢;rw [HN.out] at o2 ⊢;have O2:Hid (v2.ownsRow v1.heap.size 83 6 (.slice (some ⟨g,0,none⟩) n cp) n (aG es)):=o2;have hg:=bV o2;have n12:=Below.step n1 n2 (Nat.le_refl _);have HT2:Hid (TlbAt v2 (.agg #[.int .i64 sets,.int .i64 ways,.slice a n cap]) ⟨sets,ways,es⟩):=HT1.out.keep n2;have HR2:Hid (RowC v2 a n 6 (aG es)):=RowC.keep HR1.out n2;have K1:=ae H1 n2;have K2:=ae H2 n2;have K3:=ae H3 n2;have l2:v1.heap.size≤v2.heap.size:=n2.size;obtain ⟨_,hg1,hg2⟩:=hg;simp only at hg1 hg2;clear o2 n1 n2 HT1 HR1 H1 H2 H3;obtain ⟨⟨c0,c1,c2⟩,_,_,_⟩:=ao K1.out;have s0:w.heap.size<v2.heap.size:=by omega
 go_wp2_with fail;have n3:=(Below.refl v2.heap.size v2).alloc (Nat.le_refl _) (Obj.cells #[.int .i64 sets,.int .i64 ways,.slice (some ⟨g,0,none⟩) n cp] 41);have H4:Hid ((v2.alloc (Obj.cells #[.int .i64 sets,.int .i64 ways,.slice (some ⟨g,0,none⟩) n cp] 41)).heap[v2.heap.size]?=some (.cells #[.int .i64 sets,.int .i64 ways,.slice (some ⟨g,0,none⟩) n cp] 41 (0,0))):=heap_alloc_new v2 _;have l3:v2.heap.size<(v2.alloc (Obj.cells #[.int .i64 sets,.int .i64 ways,.slice (some ⟨g,0,none⟩) n cp] 41)).heap.size:=by simp
 generalize v2.alloc (Obj.cells #[.int .i64 sets,.int .i64 ways,.slice (some ⟨g,0,none⟩) n cp] 41)=v3 at n3 H4 l3 ⊢;have n13:=Below.step n12 n3 (Nat.le_refl _);have HT3:Hid (TlbAt v3 (.agg #[.int .i64 sets,.int .i64 ways,.slice a n cap]) ⟨sets,ways,es⟩):=HT2.out.keep n3;refine (kR _ ⟨sets,ways,es⟩ v3 HT3.out).mono ?_;rw [HEb.out];rintro e v4 ⟨rfl,n4⟩;have n34:=Below.step n3 n4 (Nat.le_refl _);have A4:=Below.step n12 n34 (Nat.le_refl _);have HR4:Hid (RowC v4 a n 6 (aG es)):=RowC.keep HR2.out n34;have O4:Hid (v4.ownsRow v1.heap.size 83 6 (.slice (some ⟨g,0,none⟩) n cp) n (aG es)):=ak O2.out n34;have P1:=ae K1 n34;have P2:=ae K2 n34;have P3:=ae K3 n34;have P4:=ae H4 n4;have l4:v2.heap.size<v4.heap.size:=Nat.lt_of_lt_of_le l3 n4.size;clear c0 c1 c2 n12 n13 n3 n4 n34 HT2 HT3 HR2 O2 K1 K2 K3 H4 l3;obtain ⟨⟨p0,p1,p2⟩,_,_,_⟩:=ao P4.out;cases eb
 ·have hfl:X=⟨sets,ways,es⟩:=by rw [←HX.out];unfold dg;rw [if_neg (by rw [HEb.out];simp)]
  obtain ⟨⟨d0,d1,d2⟩,e0,e1,e2⟩:=ao P3.out;go_wp2_with fail;refine bodyPost_ret (v:=.agg #[.int .i64 sets,.int .i64 ways,.slice (some ⟨g,0,none⟩) n cp]) (by simp [results,Tryz.results225,go_sem,d0,d1,d2]) rfl ⟨⟨_,rfl,?_⟩,du A4 (by omega) _ _ _⟩;rw [hfl];refine ⟨g,cp,by rw [HN.out],?_⟩;simp only;rw [HN.out];exact aX (cK O4.out (gb3 v4 (w.heap.size+1+1) _ _ _) (by omega)) (by omega)
 ·have HLv':=HLv.out rfl;have HL2:Hid (∀(j:Nat) x,es[j]?=some x→x.valid=true→0≤x.level∧x.level≤2):=HLv';clear HLv HLv';go_wp2_with fail;go_loopw [6] (fun i wr=>∃k:Nat,k≤n∧i=.int .i64 k∧v4.grownBy wr (some g)∧wr.ownsRow v1.heap.size 83 6 (.slice (some ⟨g,0,none⟩) n cp) n (aG (bq ⟨hv,fva,ha,fa⟩ k es))) (fun i _=>n-(intOf i).toNat)
  case atStart=>exact ⟨0,Nat.zero_le _,rfl,az _ _,by rw [show bq ⟨hv,fva,ha,fa⟩ 0 es=es by simp [bq]];exact O4.out⟩
  case round=>
   obtain ⟨k,hk,rfl,hn,hO⟩:=hrel;have HO:Hid (wr.ownsRow v1.heap.size 83 6 (.slice (some ⟨g,0,none⟩) n cp) n (aG (bq ⟨hv,fva,ha,fa⟩ k es))):=hO;have lr:v4.heap.size≤wr.heap.size:=hn.size;clear p0 p1 p2;obtain ⟨⟨p0,p1,p2⟩,_,_,_⟩:=ao (aw P4.out hn (by omega));by_cases hlt:k<n
   ·obtain ⟨x,hx⟩:∃x,es[k]?=some x:=⟨_,List.getElem?_eq_getElem (by rw [HN.out];exact hlt)⟩;obtain ⟨b,off,rfl,hb⟩:∃b off,a=some ⟨b,off,none⟩∧b<w.heap.size:=by
     rcases HR0.out.2 with h | ⟨b,off,h,h2,_⟩
     ·omega
     ·exact ⟨b,off,h,h2⟩
    have CE:∀j u,j<6→(gX x)[j]?=some u→wr.cell? ⟨b,off+(k*6+j),none⟩=some u:=fun j u hj hu=>
     kW hn (Below.cell2 A4 (dG HR0.out HN.out k x hx j u hj hu) hb) (by omega) (by omega)
    obtain ⟨vv,lv,tg,asd,gl,pt⟩:=x;have g0:wr.cell? ⟨b,off+k*6,none⟩=some (.bool vv):=CE 0 _ (by omega) rfl;have g1:wr.cell? ⟨b,off+k*6+1,none⟩=some (.int .i64 lv):=CE 1 _ (by omega) rfl;have g2:wr.cell? ⟨b,off+k*6+2,none⟩=some (.int .u64 tg):=CE 2 _ (by omega) rfl;have g3:wr.cell? ⟨b,off+k*6+3,none⟩=some (.int .u64 asd):=CE 3 _ (by omega) rfl;have g4:wr.cell? ⟨b,off+k*6+4,none⟩=some (.bool gl):=CE 4 _ (by omega) rfl;have g5:wr.cell? ⟨b,off+k*6+5,none⟩=some (.int .u64 pt):=CE 5 _ (by omega) rfl;have hok:da ⟨vv,lv,tg,asd,gl,pt⟩:=HOK.out.1 _ (List.mem_of_getElem? hx);have HNx:Hid (bq ⟨hv,fva,ha,fa⟩ (k+1) es=(bq ⟨hv,fva,ha,fa⟩ k es).set k (bW ⟨hv,fva,ha,fa⟩ ⟨vv,lv,tg,asd,gl,pt⟩)):=kS _ k es _ hx;have HSm:Hid ((bq ⟨hv,fva,ha,fa⟩ k es).set k ⟨vv,lv,tg,asd,gl,pt⟩=bq ⟨hv,fva,ha,fa⟩ k es):=by
     show _=_;apply List.ext_getElem?;intro j;rw [List.getElem?_set];by_cases hj:k=j
     ·subst hj;rw [if_pos rfl,if_pos (by rw [hJ,HN.out];exact hlt)];unfold bq;have hkl:k≤es.length:=by rw [HN.out];omega
      rw [List.getElem?_append_right (by simp;omega),List.length_map,List.length_take,Nat.min_eq_left hkl,Nat.sub_self,List.getElem?_drop,Nat.add_zero,hx]
     ·rw [if_neg hj]
    have HLx:Hid (vv=true→0≤lv∧lv≤2):=fun h=>HL2.out k _ hx h;obtain ⟨⟨c0,c1,c2⟩,_,_,_⟩:=ao (aw P1.out hn (by omega));obtain ⟨⟨f0,f1,f2,f3⟩,_,_,_,_⟩:=ax (aw P2.out hn (by omega));have u0:w.heap.size<wr.heap.size:=by omega
    have u1:w.heap.size+1<wr.heap.size:=by omega
    have u2:v2.heap.size<wr.heap.size:=by omega
    have n5:=(Below.refl wr.heap.size wr).alloc (Nat.le_refl _) (Obj.cells #[.bool vv,.int .i64 lv,.int .u64 tg,.int .u64 asd,.bool gl,.int .u64 pt] 83);clear CE hx hO;cases vv
    ·have hst:bW ⟨hv,fva,ha,fa⟩ ⟨false,lv,tg,asd,gl,pt⟩=⟨false,lv,tg,asd,gl,pt⟩:=by simp [bW]
     go_wp2_with fail;go_roundw
     case rel=>exact ⟨k+1,by omega,by go_num,eW hn n5,by rw [HNx.out,hst,HSm.out];exact ak HO.out n5⟩
     case measure=>simp [intOf];omega
    ·obtain ⟨hl0,hl2⟩:=HLx.out rfl;obtain ⟨cb,hcb⟩:∃cb,fd ⟨hv,fva,ha,fa⟩ lv tg asd gl=cb:=⟨_,rfl⟩;have HCov:Hid (∀w,Calls Tryz.prog 134 #[.agg #[.bool hv,.int .u64 fva,.bool ha,.int .u64 fa],.int .i64 lv,.int .u64 tg,.int .u64 asd,.bool gl] w fun e w'=>e=.returned (.bool cb)∧Below w.heap.size w w'):=fun w=>by
      have:=qT ⟨hv,fva,ha,fa⟩ lv tg asd gl w hf0 hf1 hl0 hl2;rw [hcb] at this;exact this
     have HCb:Hid (fd ⟨hv,fva,ha,fa⟩ lv tg asd gl=cb):=hcb;clear hcb;go_wp2_with fail;generalize wr.alloc (Obj.cells #[.bool true,.int .i64 lv,.int .u64 tg,.int .u64 asd,.bool gl,.int .u64 pt] 83)=v5 at n5 ⊢;refine (HCov.out v5).mono ?_;rintro e v6 ⟨rfl,n6⟩;have n56:=Below.step n5 n6 (Nat.le_refl _);have hn6:=eW hn n56;have HO6:Hid (v6.ownsRow v1.heap.size 83 6 (.slice (some ⟨g,0,none⟩) n cp) n (aG (bq ⟨hv,fva,ha,fa⟩ k es))):=ak HO.out n56;clear g0 g1 g2 g3 g4 g5 c0 c1 c2 f0 f1 f2 f3 p0 p1 p2 n5 n6 HO hn;obtain ⟨⟨p0,p1,p2⟩,_,_,_⟩:=ao (aw P4.out hn6 (by omega));cases cb
     ·have hst:bW ⟨hv,fva,ha,fa⟩ ⟨true,lv,tg,asd,gl,pt⟩=⟨true,lv,tg,asd,gl,pt⟩:=by simp [bW,HCb.out]
      go_wp2_with fail;go_roundw
      case rel=>exact ⟨k+1,by omega,by go_num,hn6,by rw [HNx.out,hst,HSm.out];exact HO6.out⟩
      case measure=>simp [intOf];omega
     ·have hst:bW ⟨hv,fva,ha,fa⟩ ⟨true,lv,tg,asd,gl,pt⟩=bQ:=by simp [bW,HCb.out]
      have hcl:(aG (bq ⟨hv,fva,ha,fa⟩ k es)).length=n*6:=by rw [dC,hJ,HN.out]
      have q0:=aB HO6.out (k*6) _ (List.getElem?_eq_getElem (by omega));have q1:=aB HO6.out (k*6+1) _ (List.getElem?_eq_getElem (by omega));have q2:=aB HO6.out (k*6+2) _ (List.getElem?_eq_getElem (by omega));have q3:=aB HO6.out (k*6+3) _ (List.getElem?_eq_getElem (by omega));have q4:=aB HO6.out (k*6+4) _ (List.getElem?_eq_getElem (by omega));have q5:=aB HO6.out (k*6+5) _ (List.getElem?_eq_getElem (by omega));generalize (aG (bq ⟨hv,fva,ha,fa⟩ k es))[k*6]'_=y0 at q0;generalize (aG (bq ⟨hv,fva,ha,fa⟩ k es))[k*6+1]'_=y1 at q1;generalize (aG (bq ⟨hv,fva,ha,fa⟩ k es))[k*6+2]'_=y2 at q2;generalize (aG (bq ⟨hv,fva,ha,fa⟩ k es))[k*6+3]'_=y3 at q3;generalize (aG (bq ⟨hv,fva,ha,fa⟩ k es))[k*6+4]'_=y4 at q4;generalize (aG (bq ⟨hv,fva,ha,fa⟩ k es))[k*6+5]'_=y5 at q5;have r0:=aJ HO6.out (k*6);have r1:=aJ HO6.out (k*6+1);have r2:=aJ HO6.out (k*6+2);have r3:=aJ HO6.out (k*6+3);have r4:=aJ HO6.out (k*6+4);have r5:=aJ HO6.out (k*6+5);go_wp2_with fail;go_roundw
      case rel=>
       refine ⟨k+1,by omega,by go_num,aq (aq (aq (aq (aq (aq hn6 _ _) _ _) _ _) _ _) _ _) _ _,?_⟩;rw [HNx.out,hst,fC _ _ _ (by rw [hJ,HN.out];exact hlt)];exact aC (aC (aC (aC (aC (aC HO6.out _ _) _ _) _ _) _ _) _ _) _ _
      case measure=>simp [intOf];omega
   ·have hkn:k=n:=by omega
    subst hkn;have hfl:X=⟨sets,ways,es.map (bW ⟨hv,fva,ha,fa⟩)⟩:=by rw [←HX.out];unfold dg;rw [if_pos HEb.out]
    have hsn:bq ⟨hv,fva,ha,fa⟩ k es=es.map (bW ⟨hv,fva,ha,fa⟩):=by
     have hq:es.length=k:=HN.out;unfold bq;rw [←hq,List.take_length,List.drop_length,List.append_nil]
    obtain ⟨⟨d0,d1,d2⟩,e0,e1,e2⟩:=ao (aw P3.out hn (by omega));go_wp2_with fail;refine bodyPost_ret (v:=.agg #[.int .i64 sets,.int .i64 ways,.slice (some ⟨g,0,none⟩) k cp]) (by simp [results,Tryz.results225,go_sem,d0,d1,d2]) rfl ⟨⟨_,rfl,?_⟩,du (A4.grown hn (by have:=A4.size;omega) (fun q hq=>by cases hq;omega)) (by omega) _ _ _⟩;rw [hfl];refine ⟨g,cp,by simp only [List.length_map];rw [HN.out],?_⟩;simp only [List.length_map];rw [HN.out,←hsn];exact aX (cK HO.out (gb3 wr (w.heap.size+1+1) _ _ _) (by omega)) (by omega)
end Go.Proofs.YthekickjjaleaaaGreat
