import Derived.Test.YtaoaifmkhbgaiaaGreatPk10
import Derived.Test.YtaoaifmkhbgaiaaGreatPk08
import Derived.Test.YtaoaifmkhbgaiaaGreatPk05
import Derived.Test.YtaoaifmkhbgaiaaGreatPk06
import Derived.Test.YtaoaifmkhbgaiaaGreatPk07
import Derived.StillTailTactics
import Derived.Test.YtaoaifmkhbgaiaaGreatPk09
namespace Go.Proofs.YtaoaifmkhbgaiaaGreat
set_option linter.unusedVariables false
theorem qN (level va satp pte:Int) (hl:0≤level∧level≤2) (hp:0≤pte∧pte≤18446744073709551615):dq (et level va satp pte):=by
 have ht:=rV va level (by omega);refine ⟨⟨by simp only [et];omega,by simp only [et];omega⟩,⟨ht.1,?_⟩,?_,hp⟩
 ·simp only [et];omega
 ·simp only [et,ay];omega
theorem pM {t:TlbM} {e:EntM} (pick:Int) (ht:ex t) (he:dq e):ex (cz t e pick):=by
 obtain ⟨l1,l2,l3⟩:=fk t e pick;obtain ⟨h1,h2,h3,h4⟩:=ht;refine ⟨?_,by rw [l2];exact h2,by rw [l3];exact h3,by rw [l1];exact h4⟩;unfold cz;split
 ·intro x hx;simp only at hx;rcases List.mem_or_eq_of_mem_set hx with hx | rfl
  ·exact h1 x hx
  ·exact he
 ·exact h1
theorem ub (va satp pick:Int):∀(rs:List ef) (p:TlbM),ex p→(∀x∈rs,(0≤x.1∧x.1≤2)∧0≤x.2.2∧x.2.2≤18446744073709551615)→ex (cE va satp pick rs p)
 | [],p,h,_=>h
 | r::rs,p,h,hx=>by
  rw [cE];refine ub va satp pick rs _ ?_ fun x hx'=>hx x (List.mem_cons_of_mem _ hx');have hr:=hx r (List.mem_cons_self ..);split
  ·exact pM pick h (qN _ _ _ _ hr.1 hr.2)
  ·exact h
theorem yu (va satp pick:Int) (rs:List ef) (p:TlbM) (j:Nat) (x:ef) (hx:rs[j]?=some x):
 cE va satp pick (rs.take (j+1)) p=if bC x.2.2 x.1=1 then cz (cE va satp pick (rs.take j) p) (et x.1 va satp x.2.2) pick else cE va satp pick (rs.take j) p:=by
 have:rs.take (j+1)=rs.take j++[x]:=by
  rw [List.take_add_one,hx];rfl
 rw [this,jr];rfl
end Go.Proofs.YtaoaifmkhbgaiaaGreat

namespace Go.Proofs.YtaoaifmkhbgaiaaGreat
set_option linter.unusedVariables false
def gn (zs:List Int):Prop:=∀i:Nat,0≤zs[i]?.getD 0∧zs[i]?.getD 0≤255
def re (zs:List Int):Prop:=∀i:Nat,0≤zs[i]?.getD 0∧zs[i]?.getD 0≤18446744073709551615
def inU (x:Int):Prop:=0≤x∧x≤18446744073709551615
def kOk (k:KM):Prop:=ex k.i∧ex k.d∧ex k.p
structure HOk (h:HartM):Prop where
 valid:ut h=true
 mem:gn h.mem
 regs:re h.regs
 pc:inU h.pc
 satp:inU h.satp
 tvec:inU h.tvec
 epc:inU h.epc
 tval:inU h.tval
 ks:kOk h.k
structure ROk (r:RunM):Prop where
 h:HOk r.h
 cause:0≤r.cause∧r.cause≤63
 tval:inU r.tval
 looks:∀l∈r.looks,(0≤l.1∧l.1≤2)∧inU l.2
 fva:inU r.fence.va
 fas:inU r.fence.asid
structure VH (h:HartM):Prop where
 size:sd h.mem.length=true
 regs:h.regs.length=8
 zero:h.regs[0]?.getD 0=0
 mode:0≤h.mode∧h.mode≤2
 emode:0≤h.emode∧h.emode≤2
 satp:eM h.satp=true
 tvec:h.tvec%4=0
 cause:0≤h.cause∧h.cause≤63
 ks:aV h.k=true
theorem er (h:HartM):ut h=true↔VH h:=by
 simp only [ut,xW,Bool.and_eq_true,decide_eq_true_eq,beq_iff_eq];constructor
 ·rintro ⟨⟨a,⟨⟨⟨⟨⟨⟨b,c⟩,d⟩,e⟩,f⟩,g⟩,i⟩⟩,j⟩;exact ⟨a,b,c,d,e,f,g,i,j⟩
 ·rintro ⟨a,b,c,d,e,f,g,i,j⟩;exact ⟨⟨a,⟨⟨⟨⟨⟨⟨b,c⟩,d⟩,e⟩,f⟩,g⟩,i⟩⟩,j⟩
theorem HOk.v {h:HartM} (k:HOk h):VH h:=(er h).1 k.valid
theorem fO {n:Nat} (h:sd n=true):n%64=0∧64≤n∧n≤4096:=by simpa [sd] using h
theorem zg (pte level va:Int):inU (eV pte level va):=by
 have hp:0≤dK pte∧dK pte<17592186044416:=by unfold dK;omega
 unfold eV hJ inU;split
 ·omega
 ·split
  ·omega
  ·split <;> omega
theorem rf (kind:Int):0≤eD kind∧eD kind≤63:=by unfold eD;split;omega;split <;> omega
theorem rh (kind:Int):0≤cQ kind∧cQ kind≤63:=by unfold cQ;split;omega;split <;> omega
theorem uL (pte level mode:Int) (sum mxr:Bool) (kind va:Int):(0≤(ey pte level mode sum mxr kind va).1∧(ey pte level mode sum mxr kind va).1≤63)∧inU (ey pte level mode sum mxr kind va).2:=by
 unfold ey;split
 ·exact ⟨⟨by simp,by simp⟩,zg _ _ _⟩
 ·exact ⟨rf kind,by simp [inU]⟩
theorem rj (r:Int × Int × Int × List ef) (mode:Int) (sum mxr:Bool) (kind va:Int):(0≤(ck r mode sum mxr kind va).1∧(ck r mode sum mxr kind va).1≤63)∧inU (ck r mode sum mxr kind va).2:=by
 unfold ck;split
 ·exact ⟨rf kind,by simp [inU]⟩
 ·split
  ·exact ⟨rh kind,by simp [inU]⟩
  ·exact uL _ _ _ _ _ _ _
theorem yk (zs:List Int) (mode:Int) (sum mxr:Bool) (satp kind va:Int) (hv:inU va):(0≤(eu zs mode sum mxr satp kind va).1∧(eu zs mode sum mxr satp kind va).1≤63)∧inU (eu zs mode sum mxr satp kind va).2:=by
 unfold eu;split
 ·exact ⟨⟨by simp,by simp⟩,by simp [inU]⟩
 ·split
  ·exact ⟨⟨by simp,by simp⟩,hv⟩
  ·exact rj _ _ _ _ _ _
theorem lG (zs:List Int) (mode:Int) (sum mxr:Bool) (satp:Int) (k:KM) (kind va pick:Int) (hz:gn zs) (hk:kOk k) (hv:inU va):
 kOk (ak zs mode sum mxr satp k kind va pick).2∧(0≤(ak zs mode sum mxr satp k kind va pick).1.1∧(ak zs mode sum mxr satp k kind va pick).1.1≤63)∧inU (ak zs mode sum mxr satp k kind va pick).1.2:=by
 unfold ak;by_cases hb:aV k=false∨kind<0∨2<kind∨mode<0∨2<mode∨pick<0∨255<pick
 ·rw [if_pos hb];have h0:ex ur:=⟨fun e he=>absurd he (by simp [ur]),by simp [ur],by simp [ur],by simp [ur]⟩;exact ⟨⟨h0,h0,h0⟩,⟨by simp,by simp⟩,by simp [inU]⟩
 ·rw [if_neg hb];have hg:aV k=true:=by
   cases hh:aV k
   ·exact absurd (.inl hh) hb
   ·rfl
  split
  ·exact ⟨hk,⟨by simp,by simp⟩,hv⟩
  ·split
   ·exact ⟨hk,rf kind,by simp [inU]⟩
   ·split
    ·have:=uL (aO (cM k kind) va (ay satp)).2.2.2 (aO (cM k kind) va (ay satp)).2.2.1 mode sum mxr kind va;exact ⟨hk,this.1,this.2⟩
    ·simp only;have hgp:aG k.p true=true:=by simp only [aV,Bool.and_eq_true] at hg;exact hg.2
     obtain ⟨_,_,hl⟩:=oU zs satp va k.p (ay satp) hgp hk.2.2.1 hz;have ha:=rj (aW zs satp va (aO k.p va (ay satp))) mode sum mxr kind va;have hp:=ub va satp pick _ k.p hk.2.2 hl.recs;refine ⟨?_,ha.1,ha.2⟩;have ht:ex (cM k kind):=by unfold cM;split;exact hk.1;exact hk.2.1
     have hi:=pM pick ht (qN (aW zs satp va (aO k.p va (ay satp))).2.1 va satp (aW zs satp va (aO k.p va (ay satp))).2.2.1 hl.level hl.pte);split
     ·unfold p6;split
      ·exact ⟨hi,hk.2.1,hp⟩
      ·exact ⟨hk.1,hi,hp⟩
     ·exact ⟨hk.1,hk.2.1,hp⟩
theorem iS {h:HartM} (hh:HOk h) (plain:Bool) {pick kind va:Int} (hp:0≤pick∧pick≤255) (hk:0≤kind∧kind≤2) (hv:inU va):
 HOk (eN h (cV plain pick h kind va).2)∧(0≤(cV plain pick h kind va).1.1∧(cV plain pick h kind va).1.1≤63)∧inU (cV plain pick h kind va).1.2:=by
 have v:=hh.v;cases plain
 ·have e:cV false pick h kind va=ak h.mem h.mode h.sum h.mxr h.satp h.k kind va pick:=rfl;rw [e];obtain ⟨t1,t2,t3⟩:=lG h.mem h.mode h.sum h.mxr h.satp h.k kind va pick hh.mem hh.ks hv;have tg:=nH h.mem h.mode h.sum h.mxr h.satp h.k kind va pick v.ks hk v.mode hp;refine ⟨⟨(er _).2 ⟨v.size,v.regs,v.zero,v.mode,v.emode,v.satp,v.tvec,v.cause,tg⟩,hh.mem,hh.regs,hh.pc,hh.satp,hh.tvec,hh.epc,hh.tval,t1⟩,t2,t3⟩
 ·have e:cV true pick h kind va=(eu h.mem h.mode h.sum h.mxr h.satp kind va,h.k):=rfl;rw [e];have:=yk h.mem h.mode h.sum h.mxr h.satp kind va hv;exact ⟨hh,this.1,this.2⟩
theorem ox {r:RunM} (hr:ROk r) (plain:Bool) {pick kind va:Int} (hp:0≤pick∧pick≤255) (hk:0≤kind∧kind≤2) (hv:inU va):ROk (dm plain pick r kind va):=by
 refine ⟨(iS hr.h plain hp hk hv).1,hr.cause,hr.tval,?_,hr.fva,hr.fas⟩;intro l hl;rcases List.mem_append.1 hl with hl | hl
 ·exact hr.looks l hl
 ·rw [List.mem_singleton] at hl;subst hl;exact ⟨hk,hv⟩
theorem iw {r:RunM} (hr:ROk r) {c t:Int} (hc:0≤c∧c≤63) (ht:inU t):ROk (dc r c t):=⟨hr.h,hc,ht,hr.looks,hr.fva,hr.fas⟩
def eE (ps:List dH):Prop:=∀p∈ps,inU p.1∧(1≤p.2.1∧p.2.1≤8)∧inU p.2.2
theorem zh (va w:Int) (hv:inU va) (hw:1≤w∧w≤8):eE (ji va w):=by
 unfold inU at hv;unfold ji;split
 ·intro p hp;simp only [List.mem_cons,List.not_mem_nil,or_false] at hp;rcases hp with rfl | rfl
  ·exact ⟨hv,by simp only;omega,by simp [inU]⟩
  ·exact ⟨by simp only [inU];omega,by simp only;omega,by simp [inU]⟩
 ·intro p hp;simp only [List.mem_singleton] at hp;subst hp;exact ⟨hv,hw,by simp [inU]⟩
theorem lH (plain:Bool) {pick kind:Int} (hp:0≤pick∧pick≤255) (hk:0≤kind∧kind≤2):∀(ps:List dH) (r:RunM),ROk r→eE ps→ROk (bu plain pick kind r ps).1∧eE (bu plain pick kind r ps).2
 | [],r,hr,hs=>⟨hr,hs⟩
 | p::ps,r,hr,hs=>by
  have h1:=hs p (List.mem_cons_self ..);have hl:=ox hr plain hp hk h1.1;have ht:=iS hr.h plain hp hk h1.1;rw [bu];split
  ·have:=lH plain hp hk ps _ hl (fun q hq=>hs q (List.mem_cons_of_mem _ hq));refine ⟨this.1,fun q hq=>?_⟩;rcases List.mem_cons.1 hq with rfl | hq
   ·exact ⟨h1.1,h1.2.1,ht.2.2⟩
   ·exact this.2 q hq
  ·exact ⟨iw hl ht.2.1 h1.1,hs⟩
theorem uM {mem:List Int}:∀{ps:List dH} {v:Int},pe mem ps=some v→∃p∈ps,p.1=v
 | p::ps,v,h=>by
  rw [pe] at h;split at h
  ·obtain ⟨q,hq,e⟩:=uM h;exact ⟨q,List.mem_cons_of_mem _ hq,e⟩
  ·cases h;exact ⟨p,List.mem_cons_self ..,rfl⟩
theorem iT (plain:Bool) {pick kind va w:Int} {r:RunM} (hp:0≤pick∧pick≤255) (hk:0≤kind∧kind≤2) (hv:inU va) (hw:1≤w∧w≤8) (hr:ROk r):ROk (aY plain pick r kind va w).1∧eE (aY plain pick r kind va w).2:=by
 have:=lH plain hp hk (ji va w) r hr (zh va w hv hw);unfold aY;generalize bu plain pick kind r (ji va w)=z at this ⊢;split
 ·split
  ·exact this
  ·rename_i v ho;obtain ⟨p,hp',e⟩:=uM ho;exact ⟨iw this.1 (rh kind) (by rw [←e];exact (this.2 p hp').1),this.2⟩
 ·exact this
theorem zi {zs:List Int} (h:re zs) (n:Nat) {x:Int} (hx:inU x):re (zs.set n x):=by
 intro i;rw [List.getElem?_set];split
 ·split
  ·exact hx
  ·simp
 ·exact h i
theorem AL {h:HartM} (hr:re h.regs) (a:Int):inU (gJ h a):=hr a.toNat
theorem ij {r:RunM} (hr:ROk r) (a:Int) {x:Int} (hx:inU x):ROk (cZ r a x):=by
 have v:=hr.h.v;unfold cZ;by_cases ha:0<a
 ·rw [if_pos ha];refine ⟨⟨(er _).2 ⟨v.size,by simp [cF,iD,v.regs],?_,v.mode,v.emode,v.satp,v.tvec,v.cause,v.ks⟩,hr.h.mem,zi hr.h.regs _ hx,hr.h.pc,hr.h.satp,hr.h.tvec,hr.h.epc,hr.h.tval,hr.h.ks⟩,hr.cause,hr.tval,hr.looks,hr.fva,hr.fas⟩;show (r.h.regs.set a.toNat x)[0]?.getD 0=0;rw [List.getElem?_set_ne (by omega)];exact v.zero
 ·rw [if_neg ha];exact hr
theorem Aa {r:RunM} (hr:ROk r) {m:List Int} (hl:m.length=r.h.mem.length) (hm:gn m):ROk (cF r (pd r.h m)):=by
 have v:=hr.h.v;exact ⟨⟨(er _).2 ⟨by show sd m.length=true;rw [hl];exact v.size,v.regs,v.zero,v.mode,v.emode,v.satp,v.tvec,v.cause,v.ks⟩,hm,hr.h.regs,hr.h.pc,hr.h.satp,hr.h.tvec,hr.h.epc,hr.h.tval,hr.h.ks⟩,hr.cause,hr.tval,hr.looks,hr.fva,hr.fas⟩
theorem yl {zs ys:List Int} {k:Nat} (h:gn zs) (hy:∀y∈ys,0≤y∧y≤255):gn (put zs k ys):=by
 refine dv fun z hz=>?_;unfold put at hz;rw [List.append_assoc,List.mem_append,List.mem_append] at hz;rcases hz with hz | hz | hz
 ·exact ed h z (List.mem_of_mem_take hz)
 ·exact hy z hz
 ·exact ed h z (List.mem_of_mem_drop hz)
theorem uN {mem:List Int}:∀{ps:List dH},pe mem ps=none→∀p∈ps,jm mem.length p.2.2 p.2.1=true
 | p::ps,h,q,hq=>by
  rw [pe] at h;split at h
  ·rcases List.mem_cons.1 hq with rfl | hq
   ·assumption
   ·exact uN h q hq
  ·cases h
theorem lJ {plain:Bool} {pick kind va w:Int} {r:RunM} (h0:(aY plain pick r kind va w).1.cause=0):∀p∈(aY plain pick r kind va w).2,jm (aY plain pick r kind va w).1.h.mem.length p.2.2 p.2.1=true:=by
 unfold aY at h0 ⊢;generalize bu plain pick kind r (ji va w)=z at h0 ⊢;by_cases hc:z.1.cause=0
 ·rw [if_pos hc] at h0 ⊢;cases ho:pe z.1.h.mem z.2 with
  | none=>
   exact uN ho
  | some v=>
   rw [ho] at h0;exact absurd h0 (iq kind)
 ·rw [if_neg hc] at h0;exact absurd h0 hc
theorem zj:∀(ps:List dH) (mem b:List Int),gn mem→(∀y∈b,0≤y∧y≤255)→(∀p∈ps,jm mem.length p.2.2 p.2.1=true)→eE ps→(lZ mem ps b).length=mem.length∧gn (lZ mem ps b)
 | [],mem,b,hm,hb,hi,hs=>⟨rfl,hm⟩
 | p::ps,mem,b,hm,hb,hi,hs=>by
  have h1:=hi p (List.mem_cons_self ..);have h2:=(hs p (List.mem_cons_self ..)).2;simp only [jm,decide_eq_true_eq] at h1;obtain ⟨h21,h22⟩:=h2;unfold inU at h22;have hl:(put mem p.2.2.toNat (b.take p.2.1.toNat)).length=mem.length:=Ag mem _ _ (by rw [List.length_take];omega);rw [lZ];have:=zj ps (put mem p.2.2.toNat (b.take p.2.1.toNat)) (b.drop p.2.1.toNat) (yl hm fun y hy=>hb y (List.mem_of_mem_take hy)) (fun y hy=>hb y (List.mem_of_mem_drop hy)) (fun q hq=>by rw [hl];exact hi q (List.mem_cons_of_mem _ hq)) (fun q hq=>hs q (List.mem_cons_of_mem _ hq));rw [hl] at this;exact this
theorem ko {mem:List Int} (hm:gn mem):∀(ps:List dH),∀z∈dP mem ps,0≤z∧z≤255
 | p::ps,z,hz=>by
  rw [dP,List.mem_append] at hz;rcases hz with hz | hz
  ·exact ed hm z (List.mem_of_mem_drop (List.mem_of_mem_take hz))
  ·exact ko hm ps z hz
def iz:List dH→Int
 | []=>0
 | p::ps=>p.2.1+iz ps
theorem jA (mem:List Int):∀(ps:List dH),eE ps→((dP mem ps).length:Int)≤iz ps
 | [],_=>by simp [dP,iz]
 | p::ps,h=>by
  have h1:=(h p (List.mem_cons_self ..)).2.1;have:=jA mem ps fun q hq=>h q (List.mem_cons_of_mem _ hq);rw [dP,iz,List.length_append,List.length_take];omega
theorem lK (plain:Bool) (pick kind:Int):∀(ps:List dH) (r:RunM),iz (bu plain pick kind r ps).2=iz ps
 | [],r=>rfl
 | p::ps,r=>by
  rw [bu];split
  ·rw [iz,iz,lK plain pick kind ps _]
  ·rfl
theorem jJ (plain:Bool) (pick kind va w:Int) (r:RunM):iz (aY plain pick r kind va w).2=w:=by
 have hc:iz (ji va w)=w:=by
  unfold ji;split <;> simp only [iz] <;> omega
 have:=lK plain pick kind (ji va w) r;unfold aY;generalize bu plain pick kind r (ji va w)=z at this ⊢;split
 ·split <;> (rw [this,hc])
 ·rw [this,hc]
theorem zk {mem:List Int} (hm:gn mem) {ps:List dH} (hs:eE ps) (hl:iz ps≤8):inU (lo mem ps):=by
 have h1:=jA mem ps hs;have:=pJ (dP mem ps) 8 (ko hm ps) (by omega);unfold lo inU;have e:(256:Int)^8=18446744073709551616:=by decide
 omega
theorem gQ (x:Int):inU (x%18446744073709551616):=by unfold inU;omega
theorem rk {t:RunM × List dH} (hr:ROk t.1) (hs:eE t.2) (hi:∀p∈t.2,jm t.1.h.mem.length p.2.2 p.2.1=true) (x:Int) (n:Nat):ROk (eh t (eA x n)):=by
 have:=zj t.2 t.1.h.mem (eA x n) hr.h.mem (jq n x) hi hs;exact Aa hr this.1 this.2
theorem mu (c:Int) (hc:0≤c):1≤jU (c%4)∧jU (c%4)≤8:=by
 unfold jU;rcases (show c%4=0∨c%4=1∨c%4=2∨c%4=3 by omega) with h | h | h | h <;> rw [h] <;> decide
theorem zl (plain:Bool) {pick ea w a:Int} {r:RunM} (hp:0≤pick∧pick≤255) (hv:inU ea) (hw:1≤w∧w≤8) (hr:ROk r):ROk (zF plain pick r ea w a):=by
 obtain ⟨h1,h2⟩:=iT plain hp (kind:=1) (by omega) hv hw hr;have h3:=jJ plain pick 1 ea w r;unfold zF;generalize aY plain pick r 1 ea w=z at h1 h2 h3 ⊢;split
 ·exact ij h1 a (zk h1.h.mem h2 (by omega))
 ·exact h1
theorem ym (plain:Bool) {pick ea w x:Int} {r:RunM} (hp:0≤pick∧pick≤255) (hv:inU ea) (hw:1≤w∧w≤8) (hr:ROk r):ROk (xk plain pick r ea w x):=by
 obtain ⟨h1,h2⟩:=iT plain hp (kind:=2) (by omega) hv hw hr;have h4:=@lJ plain pick 2 ea w r;unfold xk;generalize aY plain pick r 2 ea w=z at h1 h2 h4 ⊢;split
 ·rename_i h0;exact rk h1 h2 (h4 h0) _ _
 ·exact h1
theorem Ab (plain:Bool) {pick ea a x:Int} {r:RunM} (hp:0≤pick∧pick≤255) (hv:inU ea) (hr:ROk r):ROk (AU plain pick r ea a x):=by
 obtain ⟨h1,h2⟩:=iT plain hp (kind:=2) (by omega) hv (w:=8) (by omega) hr;have h3:=jJ plain pick 2 ea 8 r;have h4:=@lJ plain pick 2 ea 8 r;unfold AU;generalize aY plain pick r 2 ea 8=z at h1 h2 h3 h4 ⊢;split
 ·rename_i h0;exact ij (rk h1 h2 (h4 h0) _ _) a (zk h1.h.mem h2 (by omega))
 ·exact h1
theorem fX {t:TlbM} {f:FenceM} (h:ex t):ex (ct t f):=by
 unfold ct;split
 ·refine ⟨fun e he=>?_,h.2.1,h.2.2.1,by simpa using h.2.2.2⟩;simp only [List.mem_map] at he;obtain ⟨y,hy,rfl⟩:=he;unfold cU;split
  ·simp [dq,cL]
  ·exact h.1 y hy
 ·exact h
theorem AM (plain:Bool) {pick pc op a b c s word:Int} {r:RunM} (hp:0≤pick∧pick≤255) (hc:0≤c) (hw:inU word) (hr:ROk r):ROk (doM plain pick r pc op a b c s word):=by
 have v:=hr.h.v;have rg:=fun x=>AL hr.h.regs x;have hea:inU (eaM r.h b s):=gQ _;unfold doM;by_cases hi:de op c r.h.mode=true
 ·rw [if_pos hi];exact iw hr (by omega) hw
 rw [if_neg hi];by_cases o1:op=1
 ·rw [if_pos o1];exact ij hr _ (gQ _)
 rw [if_neg o1];by_cases o2:op=2
 ·rw [if_pos o2];exact ij hr _ (gQ _)
 rw [if_neg o2];by_cases o3:op=3
 ·rw [if_pos o3];exact ij hr _ hea
 rw [if_neg o3];by_cases o4:op=4
 ·rw [if_pos o4];exact ij hr _ (gQ _)
 rw [if_neg o4];by_cases o5:op=5
 ·rw [if_pos o5];exact zl plain hp hea (mu c hc) hr
 rw [if_neg o5];by_cases o6:op=6
 ·rw [if_pos o6];exact ym plain hp hea (mu c hc) hr
 rw [if_neg o6];by_cases o7:op=7
 ·rw [if_pos o7];exact Ab plain hp hea hr
 rw [if_neg o7];by_cases o8:op=8
 ·rw [if_pos o8];split
  ·exact hr
  ·exact ⟨⟨(er _).2 ⟨v.size,v.regs,v.zero,v.mode,v.emode,v.satp,v.tvec,v.cause,v.ks⟩,hr.h.mem,hr.h.regs,gQ _,hr.h.satp,hr.h.tvec,hr.h.epc,hr.h.tval,hr.h.ks⟩,hr.cause,hr.tval,hr.looks,hr.fva,hr.fas⟩
 rw [if_neg o8];by_cases o9:op=9
 ·rw [if_pos o9];split
  ·rename_i hs;exact ⟨⟨(er _).2 ⟨v.size,v.regs,v.zero,v.mode,v.emode,hs,v.tvec,v.cause,v.ks⟩,hr.h.mem,hr.h.regs,hr.h.pc,rg a,hr.h.tvec,hr.h.epc,hr.h.tval,hr.h.ks⟩,hr.cause,hr.tval,hr.looks,hr.fva,hr.fas⟩
  ·exact hr
 rw [if_neg o9];by_cases o10:op=10
 ·rw [if_pos o10];exact ⟨⟨(er _).2 ⟨v.size,v.regs,v.zero,v.mode,v.emode,v.satp,v.tvec,v.cause,v.ks⟩,hr.h.mem,hr.h.regs,hr.h.pc,hr.h.satp,hr.h.tvec,hr.h.epc,hr.h.tval,hr.h.ks⟩,hr.cause,hr.tval,hr.looks,hr.fva,hr.fas⟩
 rw [if_neg o10];by_cases o11:op=11
 ·rw [if_pos o11];have rb:=rg b;have hfas:inU (ph r.h a b).asid:=by unfold inU at rb ⊢;show 0≤gJ r.h b%65536∧gJ r.h b%65536≤_;omega
  cases plain
  ·exact ⟨⟨(er _).2 ⟨v.size,v.regs,v.zero,v.mode,v.emode,v.satp,v.tvec,v.cause,vw _ _ v.ks⟩,hr.h.mem,hr.h.regs,hr.h.pc,hr.h.satp,hr.h.tvec,hr.h.epc,hr.h.tval,fX hr.h.ks.1,fX hr.h.ks.2.1,fX hr.h.ks.2.2⟩,hr.cause,hr.tval,hr.looks,rg a,hfas⟩
  ·exact ⟨hr.h,hr.cause,hr.tval,hr.looks,rg a,hfas⟩
 rw [if_neg o11];by_cases o12:op=12
 ·rw [if_pos o12];exact ⟨⟨(er _).2 ⟨v.size,v.regs,v.zero,v.emode,v.emode,v.satp,v.tvec,v.cause,v.ks⟩,hr.h.mem,hr.h.regs,gQ _,hr.h.satp,hr.h.tvec,hr.h.epc,hr.h.tval,hr.h.ks⟩,hr.cause,hr.tval,hr.looks,hr.fva,hr.fas⟩
 rw [if_neg o12];by_cases o13:op=13
 ·rw [if_pos o13];have hc2:c≤2:=by
   simp only [de,Bool.or_eq_true,decide_eq_true_eq,not_or] at hi;omega
  exact ⟨⟨(er _).2 ⟨v.size,v.regs,v.zero,v.mode,⟨hc,hc2⟩,v.satp,v.tvec,v.cause,v.ks⟩,hr.h.mem,hr.h.regs,hr.h.pc,hr.h.satp,hr.h.tvec,rg a,hr.h.tval,hr.h.ks⟩,hr.cause,hr.tval,hr.looks,hr.fva,hr.fas⟩
 rw [if_neg o13];have hmd:=v.mode;by_cases o14:op=14
 ·rw [if_pos o14];exact iw hr (by omega) (by simp [inU])
 rw [if_neg o14];exact iw hr (by omega) hw
theorem t7 {r:RunM} (hr:ROk r):ROk (cF r (gI r.h ((r.h.pc+4)%18446744073709551616))):=by
 have v:=hr.h.v;exact ⟨⟨(er _).2 ⟨v.size,v.regs,v.zero,v.mode,v.emode,v.satp,v.tvec,v.cause,v.ks⟩,hr.h.mem,hr.h.regs,gQ _,hr.h.satp,hr.h.tvec,hr.h.epc,hr.h.tval,hr.h.ks⟩,hr.cause,hr.tval,hr.looks,hr.fva,hr.fas⟩
theorem Ac (plain:Bool) {pick x:Int} {r:RunM} (hp:0≤pick∧pick≤255) (hx:inU x) (hr:ROk r):ROk (sM plain pick r x):=by
 have hr':=t7 hr;unfold sM fI;generalize cF r (gI r.h ((r.h.pc+4)%18446744073709551616))=y at hr' ⊢;exact AM plain hp (by omega) hx hr'
theorem uO (plain:Bool) {pick:Int} {r:RunM} (hp:0≤pick∧pick≤255) (hr:ROk r):ROk (jV plain pick r):=by
 have ht:=iS hr.h plain hp (kind:=0) (by omega) hr.h.pc;have hl:=ox hr plain hp (kind:=0) (by omega) hr.h.pc;have hx:inU (zG plain pick r.h):=nf _ _ 4 (by omega) hr.h.mem;unfold jV;generalize dm plain pick r 0 r.h.pc=z at hl ⊢;split
 ·split
  ·split
   ·exact Ac plain hp hx hl
   ·exact iw hl (by omega) hr.h.pc
  ·exact iw hl ht.2.1 hr.h.pc
 ·exact iw hr (by omega) hr.h.pc
theorem jK {t:TlbM} {n:Int} (h:ex t):ex (bY t n):=by
 refine ⟨fun e he=>?_,h.2.1,h.2.2.1,by simpa [bY] using h.2.2.2⟩;rcases List.mem_or_eq_of_mem_set he with he | rfl
 ·exact h.1 e he
 ·simp [dq,cL]
theorem pI (plain:Bool) (pick:Int) {h:HartM} (hh:HOk h):ROk (dZ plain pick h):=by
 have v:=hh.v;refine ⟨⟨(er _).2 ⟨v.size,v.regs,v.zero,v.mode,v.emode,v.satp,v.tvec,v.cause,xe plain pick _ v.ks⟩,hh.mem,hh.regs,hh.pc,hh.satp,hh.tvec,hh.epc,hh.tval,?_⟩,⟨by simp [dZ],by simp [dZ]⟩,by simp [dZ,inU],fun l hl=>by simp [dZ] at hl,by simp [dZ,eT,inU],by simp [dZ,eT,inU]⟩;show kOk (nI plain pick h.k);unfold nI;split
 ·exact ⟨jK hh.ks.1,jK hh.ks.2.1,jK hh.ks.2.2⟩
 ·exact hh.ks
theorem zm (plain:Bool) {pick:Int} {h:HartM} (hp:0≤pick∧pick≤255) (hh:HOk h):ROk (pj plain pick h):=by
 have hb:=uO plain hp (pI plain pick hh);have v:=hh.v;have vb:=hb.h.v;unfold pj zH;generalize jV plain pick (dZ plain pick h)=z at hb vb ⊢;split
 ·exact hb
 ·exact ⟨⟨(er _).2 ⟨v.size,v.regs,v.zero,by simp [cF,ev],v.mode,v.satp,v.tvec,hb.cause,vb.ks⟩,hh.mem,hh.regs,hh.tvec,hh.satp,hh.tvec,hh.pc,hb.tval,hb.h.ks⟩,hb.cause,hb.tval,hb.looks,hb.fva,hb.fas⟩
end Go.Proofs.YtaoaifmkhbgaiaaGreat

namespace Go.Proofs.YtaoaifmkhbgaiaaGreat
open Go.RowKit
set_option linter.unusedVariables false
attribute [local go_sem ↓] Go.wp_at_zero Go.wp_at_succ
def uk (f:FenceM):Value:=.agg #[.bool f.hasVa,.int .u64 f.va,.bool f.hasAsid,.int .u64 f.asid]
set_option maxHeartbeats 1600000 in
theorem ul (f:FenceM) (level tag asid:Int) (glob:Bool) (w:World) (h0:0≤f.va) (h1:f.va≤18446744073709551615) (hl0:0≤level) (hl2:level≤2):
 Calls Tryz.prog 166 #[uk f,.int .i64 level,.int .u64 tag,.int .u64 asid,.bool glob] w fun e w'=>e=.returned (.bool (go f level tag asid glob))∧Below w.heap.size w w':=by
 obtain ⟨hv,va,ha,fa⟩:=f;simp only at h0 h1;unfold uk;simp only;have n1:=(Below.refl w.heap.size w).alloc (Nat.le_refl _) (Obj.cells #[.bool hv,.int .u64 va,.bool ha,.int .u64 fa] 38);obtain ⟨cn,hcn⟩:∃cn,bW va=cn:=⟨_,rfl⟩;obtain ⟨tv,htv⟩:∃tv,dt va level=tv:=⟨_,rfl⟩;have HC:Hid (∀w:World,Calls Tryz.prog 10 #[.int .u64 va] w fun e w'=>e=.returned (.bool cn)∧∃n,w'=w.drewN n):=fun w=>by
  have:=dR va w h0 h1;rw [hcn] at this;exact this
 have HT:Hid (∀w:World,Calls Tryz.prog 89 #[.int .u64 va,.int .i64 level] w fun e w'=>e=.returned (.int .u64 tv)∧∃n,w'=w.drewN n):=fun w=>by
  have:=rM va level w h0 h1 hl0 hl2;rw [htv] at this;exact this
 obtain ⟨R,hR⟩:∃R,go ⟨hv,va,ha,fa⟩ level tag asid glob=R:=⟨_,rfl⟩;rw [hR];have HR:Hid (R=(!(hv && (!cn || tag != tv)) && (!ha || (!glob && asid == fa)))):=by
  show _=_;rw [←hR,←hcn,←htv];rfl
 clear hR hcn htv;cases hv
 ·cases ha <;> cases glob;all_goals
   go_enter Tryz.func166,Tryz.ntmps166;go_wp2_with fail;go_ret;exact ⟨aF (by rw [HR.out];simp),n1⟩
 ·cases cn
  ·go_enter Tryz.func166,Tryz.ntmps166;go_wp2_with (go_at_call 10;refine (HC.out _).mono ?_;rintro e w' ⟨rfl,nq,rfl⟩);go_ret;exact ⟨aF (by rw [HR.out];simp),below_drewN n1 _⟩
  ·cases ht:(tag != tv)
   ·cases ha <;> cases glob;all_goals
     go_enter Tryz.func166,Tryz.ntmps166;go_wp2_with (first
      | (go_at_call 10;refine (HC.out _).mono ?_;rintro e w' ⟨rfl,nq,rfl⟩)
      | (go_at_call 89;refine (HT.out _).mono ?_;rintro e w' ⟨rfl,nr,rfl⟩))
     go_ret;exact ⟨aF (by rw [HR.out,ht];simp),below_drewN n1 (nq+nr)⟩
   ·go_enter Tryz.func166,Tryz.ntmps166;go_wp2_with (first
     | (go_at_call 10;refine (HC.out _).mono ?_;rintro e w' ⟨rfl,nq,rfl⟩)
     | (go_at_call 89;refine (HT.out _).mono ?_;rintro e w' ⟨rfl,nr,rfl⟩))
    go_ret;exact ⟨aF (by rw [HR.out,ht];simp),below_drewN n1 (nq+nr)⟩
end Go.Proofs.YtaoaifmkhbgaiaaGreat

namespace Go.Proofs.YtaoaifmkhbgaiaaGreat
open Go.RowKit
set_option linter.unusedVariables false
theorem aJ {e:TypeId} {size:Nat} {w:World} {base g n cap:Nat} {cs:List Value} (h:w.ownsRow base e size (.slice (some ⟨g,0,none⟩) n cap) n cs) (j:Nat) (u:Value):
 (w.setCell ⟨g,j,none⟩ u).ownsRow base e size (.slice (some ⟨g,0,none⟩) n cap) n (cs.set j u):=by
 obtain ⟨h1,h2⟩:=h;refine ⟨by simpa using h1,?_⟩;rcases h2 with ⟨h2,_⟩ | ⟨g',cap',cur,h2,hb,hg,hc1,hc2,hc3,ht⟩
 ·cases h2
 ·cases h2;refine .inr ⟨g,cap,cur.setIfInBounds j u,rfl,hb,by simp [World.setCell,Array.getElem?_modify,hg],hc1,hc2,by simpa using hc3,?_⟩;subst ht;rw [Array.toList_setIfInBounds,List.take_set]
theorem aI {e:TypeId} {size:Nat} {w:World} {base g n cap:Nat} {cs:List Value} (h:w.ownsRow base e size (.slice (some ⟨g,0,none⟩) n cap) n cs) (j:Nat) (u:Value) (hj:cs[j]?=some u):w.cell? ⟨g,j,none⟩=some u:=
 (CurAt.of_own h).1.cell j u hj
theorem aP {e:TypeId} {size:Nat} {w:World} {base g n cap:Nat} {cs:List Value} (h:w.ownsRow base e size (.slice (some ⟨g,0,none⟩) n cap) n cs) (j:Nat):w.frozen? ⟨g,j,none⟩=false:=
 (CurAt.of_own h).1.free j
theorem fY {a b c:World} {r:Option Nat} (h:a.grownBy b r) (k:Below b.heap.size b c):a.grownBy c r:=
 ⟨k.os.trans h.os,k.tape.trans h.tape,k.output.trans h.output,Nat.le_trans h.size k.size,fun i hi hn=>(k.block i (Nat.lt_of_lt_of_le hi h.size)).trans (h.block i hi hn)⟩
theorem oV {a b:World} {r g o:Nat} {x:Option Value} (h:a.grownBy b (some r)) (hc:a.cell? ⟨g,o,none⟩=x) (hg:g<a.heap.size) (hne:g≠r):b.cell? ⟨g,o,none⟩=x:=
 (World.cell?_of_block (h.block g hg (by simpa using hne))).trans hc
theorem zz {a b:World} {r n size:Nat} {q:Option Addr} {cs:List Value} (h:RowC a q n size cs) (hg:a.grownBy b (some r)) (hr:a.heap.size≤r∨∀x,q=some x→x.block≠r):RowC b q n size cs:=by
 obtain ⟨h1,h2⟩:=h;refine ⟨h1,?_⟩;rcases h2 with h2 | ⟨bk,off,rfl,hlt,hc⟩
 ·exact .inl h2
 ·refine .inr ⟨bk,off,rfl,Nat.lt_of_lt_of_le hlt hg.size,fun i u hu=>?_⟩;exact oV hg (hc i u hu) hlt (by
   rcases hr with hr | hr
   ·omega
   ·exact hr _ rfl)
theorem rP {P:Program} {id:Nat} {Q:Exit→Act→World→Prop} {a:Act} {w:World} {l:List Oper} (n:Nat) (hm:P.follows .mixedOrders=true) (hB:Region.lexTailB .any l.toArray n=true)
 (h:wpStill P l.toArray w.drew (fun a'=>wpList P l.toArray Q (l.drop n) a' w.drew) (l.take n) a):(Code.region id l.toArray true).wp P Q a w:=
 wp_region_still_tail n hm hB h
end Go.Proofs.YtaoaifmkhbgaiaaGreat
