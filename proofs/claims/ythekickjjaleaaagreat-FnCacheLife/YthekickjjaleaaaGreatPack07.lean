import Derived.Test.YthekickjjaleaaaGreatPack06
import Derived.Test.YthekickjjaleaaaGreatPack03
import Derived.Test.YthekickjjaleaaaGreatPack01
import Derived.Test.YthekickjjaleaaaGreatPack02
import Derived.Test.YthekickjjaleaaaGreatPack04
namespace Go.Proofs.YthekickjjaleaaaGreat
set_option linter.unusedVariables false
structure HartM where
 mem:List Int
 regs:List Int
 pc:Int
 mode:Int
 sum:Bool
 mxr:Bool
 satp:Int
 tvec:Int
 epc:Int
 emode:Int
 cause:Int
 tval:Int
 k:KM
structure RunM where
 h:HartM
 cause:Int
 tval:Int
 looks:List (Int × Int)
 fenced:Bool
 fence:FenceM
def dS:FenceM:=⟨false,0,false,0⟩
def dO (satp:Int):Bool:=satp/1152921504606846976%16 == 0 || satp/1152921504606846976%16 == 8
def pr (n:Nat):Bool:=decide (n%64=0∧64≤n∧n≤4096)
def t4 (h:HartM):Bool:=
 decide (h.regs.length=8) && (h.regs[0]?.getD 0 == 0) && decide (0≤h.mode∧h.mode≤2) && decide (0≤h.emode∧h.emode≤2) && dO h.satp && (h.tvec%4 == 0) && decide (0≤h.cause∧h.cause≤63)
def qY (h:HartM):Bool:=pr h.mem.length && t4 h && bs h.k
def bX (plain:Bool) (pick:Int) (h:HartM) (kind va:Int):(Int × Int) × KM:=
 if plain=true then (ie h.mem h.mode h.sum h.mxr h.satp kind va,h.k) else aW h.mem h.mode h.sum h.mxr h.satp h.k kind va pick
def dP (h:HartM) (k:KM):HartM:=⟨h.mem,h.regs,h.pc,h.mode,h.sum,h.mxr,h.satp,h.tvec,h.epc,h.emode,h.cause,h.tval,k⟩
def lj (h:HartM) (mem:List Int):HartM:=⟨mem,h.regs,h.pc,h.mode,h.sum,h.mxr,h.satp,h.tvec,h.epc,h.emode,h.cause,h.tval,h.k⟩
def fO (h:HartM) (regs:List Int):HartM:=⟨h.mem,regs,h.pc,h.mode,h.sum,h.mxr,h.satp,h.tvec,h.epc,h.emode,h.cause,h.tval,h.k⟩
def fj (h:HartM) (pc:Int):HartM:=⟨h.mem,h.regs,pc,h.mode,h.sum,h.mxr,h.satp,h.tvec,h.epc,h.emode,h.cause,h.tval,h.k⟩
def bM (r:RunM) (h:HartM):RunM:=⟨h,r.cause,r.tval,r.looks,r.fenced,r.fence⟩
def co (r:RunM) (cause tval:Int):RunM:=⟨r.h,cause,tval,r.looks,r.fenced,r.fence⟩
def cA (plain:Bool) (pick:Int) (r:RunM) (kind va:Int):RunM:=
 ⟨dP r.h (bX plain pick r.h kind va).2,r.cause,r.tval,r.looks++[(kind,va)],r.fenced,r.fence⟩
abbrev cL:=Int × Int × Int
def gM (va w:Int):List cL:=
 if 64-va%64<w then [(va,64-va%64,0),((va+(64-va%64))%18446744073709551616,w-(64-va%64),0)] else [(va,w,0)]
def a8 (plain:Bool) (pick kind:Int):RunM→List cL→RunM × List cL
 | r,[]=>(r,[])
 | r,p::ps=>
  if (bX plain pick r.h kind p.1).1.1=0 then
   ((a8 plain pick kind (cA plain pick r kind p.1) ps).1,(p.1,p.2.1,(bX plain pick r.h kind p.1).1.2)::(a8 plain pick kind (cA plain pick r kind p.1) ps).2)
  else (co (cA plain pick r kind p.1) (bX plain pick r.h kind p.1).1.1 p.1,p::ps)
def lk (mem:List Int):List cL→Option Int
 | []=>none
 | p::ps=>if it mem.length p.2.2 p.2.1=true then lk mem ps else some p.1
def aP (plain:Bool) (pick:Int) (r:RunM) (kind va w:Int):RunM × List cL:=
 if (a8 plain pick kind r (gM va w)).1.cause=0 then
  match lk (a8 plain pick kind r (gM va w)).1.h.mem (a8 plain pick kind r (gM va w)).2 with
  | none=>a8 plain pick kind r (gM va w)
  | some v=>(co (a8 plain pick kind r (gM va w)).1 (dJ kind) v,(a8 plain pick kind r (gM va w)).2)
 else a8 plain pick kind r (gM va w)
def cW (mem:List Int):List cL→List Int
 | []=>[]
 | p::ps=>(mem.drop p.2.2.toNat).take p.2.1.toNat++cW mem ps
def jb (mem:List Int) (ps:List cL):Int:=num (cW mem ps)
def jC:List Int→List cL→List Int→List Int
 | mem,[],_=>mem
 | mem,p::ps,b=>jC (put mem p.2.2.toNat (b.take p.2.1.toNat)) ps (b.drop p.2.1.toNat)
def fk (h:HartM) (a:Int):Int:=h.regs[a.toNat]?.getD 0
def bZ (r:RunM) (a x:Int):RunM:=bM r (fO r.h (if 0<a then r.h.regs.set a.toNat x else r.h.regs))
def mY (s:Int):Int:=if 128≤s then s-256 else s
def iD (n:Int):Int:=2^n.toNat
def ct (op c mode:Int):Bool:=
 decide (9≤op∧op≤11∧mode=0) || decide ((op=12∨op=13)∧mode≠2) || decide (op=13∧2<c)
def lm (h:HartM) (a b:Int):FenceM:=⟨decide (a≠0),fk h a,decide (b≠0),fk h b%65536⟩
def dM (k:KM) (f:FenceM):KM:=⟨dg k.i f,dg k.d f,dg k.p f⟩
def vy (plain:Bool) (pick:Int) (r:RunM) (ea w a:Int):RunM:=
 if (aP plain pick r 1 ea w).1.cause=0 then bZ (aP plain pick r 1 ea w).1 a (jb (aP plain pick r 1 ea w).1.h.mem (aP plain pick r 1 ea w).2) else (aP plain pick r 1 ea w).1
def dh (t:RunM × List cL) (b:List Int):RunM:=bM t.1 (lj t.1.h (jC t.1.h.mem t.2 b))
def tl (plain:Bool) (pick:Int) (r:RunM) (ea w x:Int):RunM:=
 if (aP plain pick r 2 ea w).1.cause=0 then dh (aP plain pick r 2 ea w) (dK x w.toNat) else (aP plain pick r 2 ea w).1
def wZ (plain:Bool) (pick:Int) (r:RunM) (ea a x:Int):RunM:=
 if (aP plain pick r 2 ea 8).1.cause=0 then bZ (dh (aP plain pick r 2 ea 8) (dK ((jb (aP plain pick r 2 ea 8).1.h.mem (aP plain pick r 2 ea 8).2+x)%18446744073709551616) 8)) a (jb (aP plain pick r 2 ea 8).1.h.mem (aP plain pick r 2 ea 8).2) else (aP plain pick r 2 ea 8).1
def eaM (h:HartM) (b s:Int):Int:=(fk h b+mY s)%18446744073709551616
def doM (plain:Bool) (pick:Int) (r:RunM) (pc op a b c s word:Int):RunM:=
 if ct op c r.h.mode=true then co r 2 word
 else if op=1 then bZ r a (mY s%18446744073709551616)
 else if op=2 then bZ r a ((fk r.h b+fk r.h c)%18446744073709551616)
 else if op=3 then bZ r a (eaM r.h b s)
 else if op=4 then bZ r a (fk r.h b*iD (s%64)%18446744073709551616)
 else if op=5 then vy plain pick r (eaM r.h b s) (iD (c%4)) a
 else if op=6 then tl plain pick r (eaM r.h b s) (iD (c%4)) (fk r.h a)
 else if op=7 then wZ plain pick r (eaM r.h b s) a (fk r.h c)
 else if op=8 then (if fk r.h a=fk r.h b then r else bM r (fj r.h ((pc+4*mY s)%18446744073709551616)))
 else if op=9 then (if dO (fk r.h a)=true then bM r ⟨r.h.mem,r.h.regs,r.h.pc,r.h.mode,r.h.sum,r.h.mxr,fk r.h a,r.h.tvec,r.h.epc,r.h.emode,r.h.cause,r.h.tval,r.h.k⟩ else r)
 else if op=10 then bM r ⟨r.h.mem,r.h.regs,r.h.pc,r.h.mode,bS (fk r.h a) 1,bS (fk r.h a) 2,r.h.satp,r.h.tvec,r.h.epc,r.h.emode,r.h.cause,r.h.tval,r.h.k⟩
 else if op=11 then ⟨if plain=true then r.h else dP r.h (dM r.h.k (lm r.h a b)),r.cause,r.tval,r.looks,true,lm r.h a b⟩
 else if op=12 then bM r ⟨r.h.mem,r.h.regs,(r.h.epc+4*mY s)%18446744073709551616,r.h.emode,r.h.sum,r.h.mxr,r.h.satp,r.h.tvec,r.h.epc,r.h.emode,r.h.cause,r.h.tval,r.h.k⟩
 else if op=13 then bM r ⟨r.h.mem,r.h.regs,r.h.pc,r.h.mode,r.h.sum,r.h.mxr,r.h.satp,r.h.tvec,fk r.h a,c,r.h.cause,r.h.tval,r.h.k⟩
 else if op=14 then co r (8+r.h.mode) 0
 else co r 2 word
def eI (plain:Bool) (pick:Int) (r:RunM) (op p q s word:Int):RunM:=
 doM plain pick (bM r (fj r.h ((r.h.pc+4)%18446744073709551616))) r.h.pc op (p%8) (p/8%8) (q%8) s word
def bI (t:TlbM) (n:Int):TlbM:=⟨t.sets,t.ways,t.es.set (n%t.es.length).toNat bQ⟩
def ky (plain:Bool) (pick:Int) (k:KM):KM:=
 if 128≤pick∧plain=false then ⟨bI k.i (pick-128),bI k.d (pick-128),bI k.p (pick-128)⟩ else k
def vH (plain:Bool) (pick:Int) (h:HartM):Int:=rdV h.mem (bX plain pick h 0 h.pc).1.2 4
def pR (plain:Bool) (pick:Int) (r:RunM) (x:Int):RunM:=eI plain pick r (x%256) (x/256%256) (x/65536%256) (x/16777216) x
def iE (plain:Bool) (pick:Int) (r:RunM):RunM:=
 if r.h.pc%4=0 then
  if (bX plain pick r.h 0 r.h.pc).1.1=0 then
   if ed r.h.mem.length (bX plain pick r.h 0 r.h.pc).1.2 4=true then pR plain pick (cA plain pick r 0 r.h.pc) (vH plain pick r.h)
   else co (cA plain pick r 0 r.h.pc) 1 r.h.pc
  else co (cA plain pick r 0 r.h.pc) (bX plain pick r.h 0 r.h.pc).1.1 r.h.pc
 else co r 20 r.h.pc
def db (plain:Bool) (pick:Int) (h:HartM):RunM:=⟨dP h (ky plain pick h.k),0,0,[],false,dS⟩
def dv (h:HartM) (r:RunM):HartM:=⟨h.mem,h.regs,h.tvec,2,h.sum,h.mxr,h.satp,h.tvec,h.pc,h.mode,r.cause,r.tval,r.h.k⟩
def vJ (h:HartM) (r:RunM):RunM:=if r.cause=0 then r else bM r (dv h r)
def ln (plain:Bool) (pick:Int) (h:HartM):RunM:=vJ h (iE plain pick (db plain pick h))
def atM (b:List Int) (i:Nat):Int:=b[i]?.getD 0
def bY (b:List Int) (i:Nat):Int:=num ((List.range 8).map fun k=>atM b (i+k))
def ay (y:Int):TlbM:=⟨2^(y%4).toNat,1+y/4%4,List.replicate (2^(y%4).toNat*(1+y/4%4).toNat) bQ⟩
def pS (b:List Int):Nat→Nat→Nat→List Int→List Int
 | 0,_,_,mem=>mem
 | m+1,i,a,mem=>pS b m (i+1) (a+1) (if a<mem.length then mem.set a (atM b i) else mem)
def t5 (b:List Int) (i:Nat):Nat:=(atM b i+256*atM b (i+1)).toNat
def jD (b:List Int):Nat→Nat→List Int→List Int × Nat
 | 0,i,mem=>(mem,i)
 | n+1,i,mem=>jD b n (i+3+(atM b (i+2)).toNat) (pS b (atM b (i+2)).toNat (i+3) (t5 b i) mem)
def iF (y:Int):Int:=if y%4=3 then 1 else y%4
def iV (b:List Int):Nat:=min (atM b 5+256*atM b 6).toNat 20000
def sn (b:List Int):List Int × Nat:=jD b (atM b 87).toNat 88 (List.replicate (64*(1+(atM b 3%64).toNat)) 0)
def iG (b:List Int):List Int:=0::(List.range 7).map fun r=>bY b (31+8*r)
def fP (b:List Int):HartM:=
 ⟨(sn b).1,iG b,bY b 7,iF (atM b 4),atM b 4/4%2 == 1,atM b 4/8%2 == 1,if dO (bY b 23)=true then bY b 23 else 0,bY b 15/4*4,0,iF (atM b 4),0,0,⟨ay (atM b 0),ay (atM b 1),ay (atM b 2)⟩⟩
def ic (b:List Int):List Int:=(List.range (iV b)).map fun k=>atM b ((sn b).2+k)
end Go.Proofs.YthekickjjaleaaaGreat

namespace Go.Proofs.YthekickjjaleaaaGreat
set_option linter.unusedVariables false
theorem kt (zs:List Int) (va:Int):∀(l:Nat) (n:Int),(cH zs va l n).1=1∨(cH zs va l n).1=2∨(cH zs va l n).1=3
 | 0,n=>by
  unfold cH;split
  ·simp
  ·split
   ·simp
   ·split <;> simp
 | l+1,n=>by
  unfold cH;split
  ·simp
  ·split
   ·simp
   ·split
    ·simp
    ·exact kt zs va l _
theorem tb (zs:List Int) (root va:Int):(cf zs root va).1=1∨(cf zs root va).1=2∨(cf zs root va).1=3:=by
 unfold cf;split
 ·simp
 ·exact kt zs va 2 _
end Go.Proofs.YthekickjjaleaaaGreat

namespace Go.Proofs.YthekickjjaleaaaGreat
set_option linter.unusedVariables false
theorem tS (va level:Int) (h0:0≤level) (h2:level≤2):0≤ev va level∧ev va level<jo level:=by
 unfold ev jo;rcases (show level=0∨level=1∨level=2 by omega) with rfl | rfl | rfl <;> simp <;> omega
theorem mO {pte level:Int} (h:bC pte level≠0):0≤level∧level≤2:=by
 unfold bC at h;split at h
 ·exact absurd rfl h
 ·omega
theorem qk (level va satp pte:Int) (p:Bool) (hk:bC pte level=gt p):aO (eF level va satp pte) p=true:=by
 have hl:0≤level∧level≤2:=mO (by rw [hk];cases p <;> decide);have ht:=tS va level hl.1 hl.2;have ha:aU satp≤65535:=by unfold aU;omega
 simp [aO,eF,hl.1,hl.2,ht.2,ha,hk]
theorem sa (level va satp pte:Int) (p:Bool) (hk:bC pte level=gt p):0≤(eF level va satp pte).tag:=by
 have hl:0≤level∧level≤2:=mO (by rw [hk];cases p <;> decide);exact (tS va level hl.1 hl.2).1
theorem pj (va satp pick:Int):∀(rs:List eh) (p:TlbM),aI p true=true→aI (dU va satp pick rs p) true=true
 | [],p,h=>h
 | r::rs,p,h=>by
  rw [dU];refine pj va satp pick rs _ ?_;split
  ·rename_i hk;exact iU p _ pick true h (qk _ _ _ _ true hk) (sa _ _ _ _ true hk)
  ·exact h
theorem ku (zs:List Int) (va:Int):∀(l:Nat) (n:Int),(cH zs va l n).1=1→bC (cH zs va l n).2.2.1 (cH zs va l n).2.1=2
 | 0,n=>by
  intro h;unfold cH at h ⊢;split at h
  ·simp at h
  ·rename_i h1;rw [if_neg h1];split at h
   ·simp at h
   ·rename_i h2;rw [if_neg h2];split at h
    ·rename_i h3;rw [if_pos h3];exact h3
    ·simp at h
 | l+1,n=>by
  intro h;unfold cH at h ⊢;split at h
  ·simp at h
  ·rename_i h1;rw [if_neg h1];split at h
   ·simp at h
   ·rename_i h2;rw [if_neg h2];split at h
    ·rename_i h3;rw [if_pos h3];exact h3
    ·rename_i h3;rw [if_neg h3];exact ku zs va l _ h
theorem tf (zs:List Int) (root va:Int) (h:(cf zs root va).1=1):bC (cf zs root va).2.2.1 (cf zs root va).2.1=2:=by
 unfold cf at h ⊢;split at h
 ·simp at h
 ·rename_i hc;rw [if_neg hc];exact ku zs va 2 _ h
theorem vs (kind:Int):gV kind≠0:=by
 unfold gV;split
 ·decide
 ·split <;> decide
theorem kw (kind:Int):dJ kind≠0:=by
 unfold dJ;split
 ·decide
 ·split <;> decide
theorem th (t:TlbM) (f:FenceM) (va asid:Int) (he:cN t=true) (hv:f.hasVa=true→cU f.va=true∧∀l,0≤l→l≤2→ev f.va l=ev va l)
 (ha:f.hasAsid=true→f.asid=asid∧∀x∈t.es,x.valid=true→x.glob=true→x.tag≠ev va x.level):∀x∈(dg t f).es,fS x va asid=false:=by
 intro x hx;unfold dg at hx;rw [if_pos he] at hx;simp only [List.mem_map] at hx;obtain ⟨y,hy,rfl⟩:=hx;unfold bW;split
 ·simp [fS,bQ]
 ·rename_i hs;cases hf:fS y va asid
  ·rfl
  ·exfalso;apply hs;simp only [fS,Bool.and_eq_true,beq_iff_eq,Bool.or_eq_true] at hf;obtain ⟨⟨hval,htag⟩,hga⟩:=hf;obtain ⟨j,hj⟩:=List.getElem?_of_mem hy;have hl:=ei he j y hj hval;simp only [hval,Bool.true_and,fd,Bool.and_eq_true,Bool.not_eq_true',Bool.or_eq_true];refine ⟨?_,?_⟩
   ·cases hh:f.hasVa
    ·rfl
    ·obtain ⟨c1,c2⟩:=hv hh;rw [c1,htag,c2 _ hl.1 hl.2];simp
   ·cases hh:f.hasAsid
    ·exact .inl rfl
    ·right;obtain ⟨c1,c2⟩:=ha hh;have hgl:y.glob=false:=by
      cases hg:y.glob
      ·rfl
      ·exact absurd htag (c2 y hy hval hg)
     rw [hgl] at hga ⊢;simp only [Bool.false_eq_true,false_or] at hga;rw [hga,c1];simp
theorem pm (zs:List Int) (mode:Int) (sum mxr:Bool) (satp:Int) (k:KM) (kind va pick:Int) (hk:bs k=true) (h1:0≤kind∧kind≤2) (h2:0≤mode∧mode≤2) (h3:0≤pick∧pick≤255):
 bs (aW zs mode sum mxr satp k kind va pick).2=true:=by
 have hk':=hk;simp only [bs,Bool.and_eq_true] at hk';obtain ⟨⟨gi,gd⟩,gp⟩:=hk';unfold aW;rw [if_neg (by rw [hk];simp;omega)];split
 ·exact hk
 ·split
  ·exact hk
  ·split
   ·exact hk
   ·simp only;have gp':=pj va satp pick (ck zs satp va (aY k.p va (aU satp))).2.2.2 k.p gp;split
    ·rename_i ha;have hkind:bC (ck zs satp va (aY k.p va (aU satp))).2.2.1 (ck zs satp va (aY k.p va (aU satp))).2.1=2:=by
      have hcode:(ck zs satp va (aY k.p va (aU satp))).1=1:=by
       have hc:(ck zs satp va (aY k.p va (aU satp))).1=1∨(ck zs satp va (aY k.p va (aU satp))).1=2∨(ck zs satp va (aY k.p va (aU satp))).1=3:=by
        unfold ck;split
        ·exact kt zs va _ _
        ·exact tb zs satp va
       unfold el at ha;rcases hc with hc | hc | hc
       ·exact hc
       ·rw [if_pos hc] at ha;exact absurd ha (vs kind)
       ·rw [if_neg (by rw [hc];decide),if_pos hc] at ha;exact absurd ha (kw kind)
      unfold ck at hcode ⊢;split at hcode
      ·rename_i hu;rw [if_pos hu];exact ku zs va _ _ hcode
      ·rename_i hu;rw [if_neg hu];exact tf zs satp va hcode
     have hge:=qk _ va satp _ false hkind;have hgt:=sa _ va satp _ false hkind;unfold vu gL;split
     ·simp only [bs,Bool.and_eq_true];exact ⟨⟨iU _ _ pick false gi hge hgt,gd⟩,gp'⟩
     ·simp only [bs,Bool.and_eq_true];exact ⟨⟨gi,iU _ _ pick false gd hge hgt⟩,gp'⟩
    ·simp only [bs,Bool.and_eq_true];exact ⟨⟨gi,gd⟩,gp'⟩
end Go.Proofs.YthekickjjaleaaaGreat

namespace Go.Proofs.YthekickjjaleaaaGreat
set_option linter.unusedVariables false
abbrev fQ:=Int × Int × Bool × eh
def tR (va satp:Int) (r:eh):fQ:=(ev va r.1,aU satp,bS r.2.2 32,r)
def qV (gs:List fQ) (f:FenceM):List fQ:=gs.filter fun g=>!fd f g.2.2.2.1 g.1 g.2.1 g.2.2.1
def vr (g:fQ) (e:EntM):Prop:=g.1=e.tag∧g.2.1=e.asid∧g.2.2.1=e.glob∧g.2.2.2.1=e.level∧g.2.2.2.2.2=e.pte
def CovT (t:TlbM) (gs:List fQ):Prop:=∀e∈t.es,e.valid=true→∃g∈gs,vr g e
def CovK (k:KM) (gs:List fQ):Prop:=CovT k.i gs∧CovT k.d gs∧CovT k.p gs
theorem CovT.mono {t:TlbM} {gs gs':List fQ} (h:CovT t gs) (hs:∀g∈gs,g∈gs'):CovT t gs':=fun e he hv=>by
 obtain ⟨g,hg,hs'⟩:=h e he hv;exact ⟨g,hs g hg,hs'⟩
theorem CovK.mono {k:KM} {gs gs':List fQ} (h:CovK k gs) (hs:∀g∈gs,g∈gs'):CovK k gs':=⟨h.1.mono hs,h.2.1.mono hs,h.2.2.mono hs⟩
theorem CovT.insert {t:TlbM} {gs:List fQ} {e:EntM} {pick:Int} (h:CovT t gs) (he:∃g∈gs,vr g e):CovT (cE t e pick) gs:=by
 unfold cE;split
 ·intro x hx hv;rcases List.mem_or_eq_of_mem_set hx with hx | rfl
  ·exact h x hx hv
  ·exact he
 ·exact h
theorem td (va satp:Int) (r:eh):vr (tR va satp r) (eF r.1 va satp r.2.2):=⟨rfl,rfl,rfl,rfl,rfl⟩
theorem CovT.ptrs {gs:List fQ} {va satp pick:Int}:∀(rs:List eh) (p:TlbM),CovT p gs→(∀r∈rs,bC r.2.2 r.1=1→tR va satp r∈gs)→CovT (dU va satp pick rs p) gs
 | [],p,h,_=>h
 | r::rs,p,h,hr=>by
  rw [dU];refine CovT.ptrs rs _ ?_ (fun x hx=>hr x (List.mem_cons_of_mem _ hx));split
  ·rename_i hk;exact h.insert ⟨_,hr r (List.mem_cons_self ..) hk,td va satp r⟩
  ·exact h
theorem CovT.flush {t:TlbM} {gs:List fQ} {f:FenceM} (h:CovT t gs) (he:cN t=true):CovT (dg t f) (qV gs f):=by
 unfold dg;rw [if_pos he];intro x hx hv;simp only [List.mem_map] at hx;obtain ⟨y,hy,rfl⟩:=hx;unfold bW at hv ⊢;split at hv
 ·simp [bQ] at hv
 ·rename_i hc;rw [if_neg hc];obtain ⟨g,hg,h1,h2,h3,h4,h5⟩:=h y hy hv;refine ⟨g,?_,h1,h2,h3,h4,h5⟩;simp only [qV,List.mem_filter,h1,h2,h3,h4,Bool.not_eq_true'];refine ⟨hg,?_⟩;simp only [hv,Bool.true_and,Bool.not_eq_true] at hc;exact hc
theorem jy (t:TlbM) (n:Int) (p:Bool) (hv:aI t p=true):aI (bI t n) p=true:=by
 have hs:=fu hv;refine pn ?_ ?_
 ·simp only [fF,bI,decide_eq_true_eq,List.length_set];exact hs
 ·intro j x hx;simp only [bI,List.getElem?_set] at hx;split at hx
  ·split at hx
   ·cases hx;simp [bK,bQ]
   ·cases hx
  ·exact jA hv j x hx
theorem te (plain:Bool) (pick:Int) (k:KM) (h:bs k=true):bs (ky plain pick k)=true:=by
 unfold ky;split
 ·simp only [bs,Bool.and_eq_true] at h ⊢;exact ⟨⟨jy _ _ _ h.1.1,jy _ _ _ h.1.2⟩,jy _ _ _ h.2⟩
 ·exact h
theorem rY (k:KM) (f:FenceM) (h:bs k=true):bs (dM k f)=true:=by
 simp only [bs,dM,Bool.and_eq_true] at h ⊢;exact ⟨⟨jB _ _ _ h.1.1,jB _ _ _ h.1.2⟩,jB _ _ _ h.2⟩
theorem CovK.flush {k:KM} {gs:List fQ} {f:FenceM} (h:CovK k gs) (hk:bs k=true):CovK (dM k f) (qV gs f):=by
 simp only [bs,Bool.and_eq_true] at hk;exact ⟨h.1.flush (eR hk.1.1),h.2.1.flush (eR hk.1.2),h.2.2.flush (eR hk.2)⟩
end Go.Proofs.YthekickjjaleaaaGreat

namespace Go.Proofs.YthekickjjaleaaaGreat
set_option linter.unusedVariables false
theorem rX (a k:Nat):(a &&& 2^k != 0)=(a/2^k%2 == 1):=by
 have e:(a/2^k%2 == 1)=a.testBit k:=by rw [Nat.testBit_eq_decide_div_mod_eq];rfl
 rw [e];cases h:a.testBit k
 ·have:a &&& 2^k=0:=by
   apply Nat.eq_of_testBit_eq;intro i;rw [Nat.testBit_and,Nat.testBit_two_pow,Nat.zero_testBit];by_cases hi:k=i
   ·subst hi;simp [h]
   ·simp [hi]
  simp [this]
 ·have:a &&& 2^k≠0:=by
   intro h0;have:=congrArg (fun n=>n.testBit k) h0;simp [Nat.testBit_and,h] at this
  simpa using this
theorem iR (a m n:Nat):(a &&& (m ||| n) != 0)=((a &&& m != 0) || (a &&& n != 0)):=by
 rw [Nat.and_or_distrib_left];cases h:(a &&& m != 0) <;> cases h':(a &&& n != 0) <;> simp_all [Nat.or_eq_zero_iff]
def ms (x m:Int):Bool:=bits .and .u64 x m != 0
theorem ft (a m:Nat) (ha:a<18446744073709551616) (hm:m<18446744073709551616):ms a m=(a &&& m != 0):=by
 rw [ms,u64_and_nat a m ha hm];cases h:(a &&& m != 0)
 ·simp at h;simp [h]
 ·simp at h;simp;omega
theorem eX (k:Nat) (x p:Int) (hp:p=2^k) (hk:p<18446744073709551616) (h0:0≤x) (h1:x≤18446744073709551615):ms x p=bS x p:=by
 obtain ⟨a,rfl⟩:=Int.eq_ofNat_of_zero_le h0;have e:p=((2^k:Nat):Int):=by rw [hp];push_cast;rfl
 rw [e] at hk ⊢;rw [ft a (2^k) (by omega) (by omega),rX,bS];rw [show ((a:Int)/((2^k:Nat):Int)%2)=((a/2^k%2:Nat):Int) by omega];generalize a/2^k%2=t;rw [Bool.eq_iff_iff];simp only [beq_iff_eq];omega
theorem vo (x:Int) (h0:0≤x) (h1:x≤18446744073709551615):ms x 14=(bS x 2 || bS x 4 || bS x 8):=by
 rw [←eX 1 x 2 rfl (by omega) h0 h1,←eX 2 x 4 rfl (by omega) h0 h1,←eX 3 x 8 rfl (by omega) h0 h1];obtain ⟨a,rfl⟩:=Int.eq_ofNat_of_zero_le h0;rw [show (14:Int)=((14:Nat):Int) from rfl,show (2:Int)=((2:Nat):Int) from rfl,show (4:Int)=((4:Nat):Int) from rfl,show (8:Int)=((8:Nat):Int) from rfl];rw [ft a 14 (by omega) (by omega),ft a 2 (by omega) (by omega),ft a 4 (by omega) (by omega),ft a 8 (by omega) (by omega)];rw [←iR,←iR];rfl
theorem vp (x:Int) (h0:0≤x) (h1:x≤18446744073709551615):ms x 208=(bS x 16 || bS x 64 || bS x 128):=by
 rw [←eX 4 x 16 rfl (by omega) h0 h1,←eX 6 x 64 rfl (by omega) h0 h1,←eX 7 x 128 rfl (by omega) h0 h1];obtain ⟨a,rfl⟩:=Int.eq_ofNat_of_zero_le h0;rw [show (208:Int)=((208:Nat):Int) from rfl,show (16:Int)=((16:Nat):Int) from rfl,show (64:Int)=((64:Nat):Int) from rfl,show (128:Int)=((128:Nat):Int) from rfl];rw [ft a 208 (by omega) (by omega),ft a 16 (by omega) (by omega),ft a 64 (by omega) (by omega),ft a 128 (by omega) (by omega)];rw [←iR,←iR];rfl
end Go.Proofs.YthekickjjaleaaaGreat

namespace Go.Proofs.YthekickjjaleaaaGreat
open Go.RowKit
set_option linter.unusedVariables false
theorem fD (n m:Int) (w:World) (h:(n=0∧m=0)∨(n=3∧m=7)∨(n=6∧m=63)∨(n=9∧m=511)∨(n=12∧m=4095)∨(n=44∧m=17592186044415)∨(n=50∧m=1125899906842623)∨(n=15∧m=32767)∨(n=16∧m=65535)):
 Calls Tryz.prog 200 #[.int .i64 n] w fun e w'=>e=.returned (.int .u64 m)∧w'=w:=by
 rcases h with ⟨rfl,rfl⟩ | ⟨rfl,rfl⟩ | ⟨rfl,rfl⟩ | ⟨rfl,rfl⟩ | ⟨rfl,rfl⟩ | ⟨rfl,rfl⟩ | ⟨rfl,rfl⟩ | ⟨rfl,rfl⟩ | ⟨rfl,rfl⟩;all_goals
  go_enter Tryz.func200,Tryz.ntmps200;go_wp2_with fail;go_ret;exact ⟨rfl,rfl⟩
theorem fE (x m:Int) (w:World):
 Calls Tryz.prog 220 #[.int .u64 x,.int .u64 m] w fun e w'=>e=.returned (.bool (ms x m))∧w'=w:=by
 go_enter Tryz.func220,Tryz.ntmps220;go_wp2_with fail;go_ret;exact ⟨rfl,rfl⟩
theorem qK (x:Int) (w:World) (h0:0≤x) (h1:x≤18446744073709551615):
 Calls Tryz.prog 154 #[.int .u64 x] w fun e w'=>e=.returned (.bool (cU x))∧w'=w:=by
 have hm:x/16384%1125899906842624=x/16384:=Int.emod_eq_of_lt (Int.ediv_nonneg h0 (by omega)) (by omega);rw [cU,hm];clear hm;by_cases ht:x/16384=0
 ·have ht':(x/16384 == 0)=true:=by simp [ht]
  clear ht;go_enter Tryz.func154,Tryz.ntmps154;go_wp2_with fail;go_ret;exact ⟨by simp [ht'],rfl⟩
 ·have ht':(x/16384 == 0)=false:=by simpa using ht
  clear ht;go_enter Tryz.func154,Tryz.ntmps154;go_wp2_with (go_at_call 200;refine (fD 50 1125899906842623 _ (by omega)).mono ?_;rintro e w' ⟨rfl,rfl⟩);go_ret;exact ⟨by simp [ht'],rfl⟩
theorem wU (x:Int) (w:World) (h0:0≤x) (h1:x≤18446744073709551615):
 Calls Tryz.prog 238 #[.int .u64 x] w fun e w'=>e=.returned (.int .u64 (dy x))∧w'=w:=by
 have H:Hid (bits .and .u64 (x/1024) 17592186044415=dy x):=gW 44 (x/1024) 17592186044415 rfl (by omega) (by omega) (by omega);go_enter Tryz.func238,Tryz.ntmps238;go_wp2_with (go_at_call 200;refine (fD 44 17592186044415 _ (by omega)).mono ?_;rintro e w' ⟨rfl,rfl⟩);go_ret;exact ⟨fw H.out,rfl⟩
theorem qM (x:Int) (w:World) (h0:0≤x) (h1:x≤18446744073709551615):
 Calls Tryz.prog 245 #[.int .u64 x] w fun e w'=>e=.returned (.int .u64 (x/18014398509481984%1024))∧w'=w:=by
 have H:Hid (x/18014398509481984=x/18014398509481984%1024):=show _=_ by omega
 go_enter Tryz.func245,Tryz.ntmps245;go_wp2_with fail;go_ret;exact ⟨fw H.out,rfl⟩
def oJ (x:Int):Bool:=bS x 1 && (x/18014398509481984%1024 == 0) && !(bS x 4 && !bS x 2)
theorem iz (x:Int) (w:World) (h0:0≤x) (h1:x≤18446744073709551615):
 Calls Tryz.prog 243 #[.int .u64 x] w fun e w'=>e=.returned (.bool (oJ x))∧w'=w:=by
 have HV:Hid (ms x 1=bS x 1):=eX 0 x 1 rfl (by omega) h0 h1;have HR:Hid (ms x 2=bS x 2):=eX 1 x 2 rfl (by omega) h0 h1;have HW:Hid (ms x 4=bS x 4):=eX 2 x 4 rfl (by omega) h0 h1;cases hw:bS x 4 <;> cases hr:bS x 2 <;> cases hv:bS x 1;all_goals
  go_enter Tryz.func243,Tryz.ntmps243;go_wp2_with (first
   | (go_at_call 220;refine (fE x _ _).mono ?_;rintro e w' ⟨rfl,rfl⟩;first | rw [HW.out,hw] | rw [HR.out,hr] | rw [HV.out,hv])
   | (go_at_call 245;refine (qM x _ h0 h1).mono ?_;rintro e w' ⟨rfl,rfl⟩))
  all_goals
   go_ret;exact ⟨aF (by simp [oJ,hw,hr,hv];try assumption),rfl⟩
theorem oK (x level:Int) (w:World) (h0:0≤x) (h1:x≤18446744073709551615) (hl:level=0∨level=1∨level=2):
 Calls Tryz.prog 244 #[.int .u64 x,.int .i64 level] w fun e w'=>e=.returned (.bool (dy x%fN level == 0))∧w'=w:=by
 have hpp:0≤dy x∧dy x<17592186044416:=⟨Int.emod_nonneg _ (by omega),Int.emod_lt_of_pos _ (by omega)⟩;have HP:∀w,Hid (Calls Tryz.prog 238 #[.int .u64 x] w fun e w'=>e=.returned (.int .u64 (dy x))∧w'=w):=fun w=>wU x w h0 h1;generalize dy x=p at *;rcases hl with rfl | rfl | rfl
 ·have H:Hid ((bits .and .u64 p 0 == 0)=(p%fN 0 == 0)):=by
   show _=_;rw [gW 0 p 0 rfl (by omega) hpp.1 (by omega)];rfl
  go_enter Tryz.func244,Tryz.ntmps244;go_wp2_with (first
   | (go_at_call 238;refine ((HP _).out).mono ?_;rintro e w' ⟨rfl,rfl⟩)
   | (go_at_call 200;refine (fD 0 0 _ (by omega)).mono ?_;rintro e w' ⟨rfl,rfl⟩))
  go_ret;exact ⟨aF H.out,rfl⟩
 ·have H:Hid ((bits .and .u64 p 7 == 0)=(p%fN 1 == 0)):=by
   show _=_;rw [gW 3 p 7 rfl (by omega) hpp.1 (by omega)];rfl
  go_enter Tryz.func244,Tryz.ntmps244;go_wp2_with (first
   | (go_at_call 238;refine ((HP _).out).mono ?_;rintro e w' ⟨rfl,rfl⟩)
   | (go_at_call 200;refine (fD 3 7 _ (by omega)).mono ?_;rintro e w' ⟨rfl,rfl⟩))
  go_ret;exact ⟨aF H.out,rfl⟩
 ·have H:Hid ((bits .and .u64 p 63 == 0)=(p%fN 2 == 0)):=by
   show _=_;rw [gW 6 p 63 rfl (by omega) hpp.1 (by omega)];rfl
  go_enter Tryz.func244,Tryz.ntmps244;go_wp2_with (first
   | (go_at_call 238;refine ((HP _).out).mono ?_;rintro e w' ⟨rfl,rfl⟩)
   | (go_at_call 200;refine (fD 6 63 _ (by omega)).mono ?_;rintro e w' ⟨rfl,rfl⟩))
  go_ret;exact ⟨aF H.out,rfl⟩
theorem cZ (l:Int) (w:World):
 Calls Tryz.prog 218 #[.int .i64 l] w fun e w'=>e=.returned (.bool (decide (0≤l∧l≤2)))∧w'=w:=by
 by_cases h:0≤l
 ·go_enter Tryz.func218,Tryz.ntmps218;go_wp2_with fail;go_ret;exact ⟨aF (by simp [h]),rfl⟩
 ·go_enter Tryz.func218,Tryz.ntmps218;go_wp2_with fail;go_ret;exact ⟨aF (by simp;omega),rfl⟩
set_option maxHeartbeats 800000 in
theorem tJ (x level:Int) (w:World) (h0:0≤x) (h1:x≤18446744073709551615):
 Calls Tryz.prog 240 #[.int .u64 x,.int .i64 level] w fun e w'=>e=.returned (.int .i64 (bC x level))∧w'=w:=by
 by_cases hlev:0≤level∧level≤2
 ·have hk:decide (0≤level∧level≤2)=true:=by simpa using hlev
  have HK:Hid (decide (0≤level∧level≤2)=true):=hk;have hl:level=0∨level=1∨level=2:=by omega
  clear hk hlev;have HR:Hid (ms x 14=(bS x 2 || bS x 4 || bS x 8)):=vo x h0 h1;have HU:Hid (ms x 208=(bS x 16 || bS x 64 || bS x 128)):=vp x h0 h1;cases hs:oJ x
  ·have HE:Hid (bC x level=0):=by
    show _=_;simp only [bC];rw [if_pos];simp only [oJ] at hs;cases hv:bS x 1
    ·simp
    ·rw [hv] at hs;by_cases hb:0<x/18014398509481984%1024
     ·simp [hb]
     ·have hb':x/18014398509481984%1024=0:=by omega
      rw [hb'] at hs ⊢;simp at hs;simp [hs]
   go_enter Tryz.func240,Tryz.ntmps240;go_wp2_with (first
    | (go_at_call 218;refine (cZ level _).mono ?_;rintro e w' ⟨rfl,rfl⟩;rw [HK.out])
    | (go_at_call 243;refine (iz x _ h0 h1).mono ?_;rintro e w' ⟨rfl,rfl⟩;rw [hs]))
   go_ret;exact ⟨bO HE.out.symm,rfl⟩
  ·have hn:¬(level<0∨2<level∨bS x 1=false∨0<x/18014398509481984%1024∨(bS x 4=true∧bS x 2=false)):=by
    simp only [oJ,Bool.and_eq_true,beq_iff_eq,Bool.not_eq_true',Bool.and_eq_false_iff,Bool.not_eq_false'] at hs;obtain ⟨⟨a1,a2⟩,a3⟩:=hs;rw [a1,a2];rcases a3 with a3 | a3
    ·simp [a3];omega
    ·simp [a3];omega
   have HE:Hid (bC x level=if bS x 2=false∧bS x 4=false∧bS x 8=false then (if level=0∨bS x 16=true∨bS x 64=true∨bS x 128=true then 0 else 1) else if 0<dy x%fN level then 0 else 2):=by
    show _=_;rw [bC,if_neg hn]
   clear hn;cases hr:(bS x 2 || bS x 4 || bS x 8)
   ·simp only [Bool.or_eq_false_iff] at hr;have HE2:Hid (bC x level=if level=0∨bS x 16=true∨bS x 64=true∨bS x 128=true then 0 else 1):=by
     show _=_;rw [HE.out,if_pos ⟨hr.1.1,hr.1.2,hr.2⟩]
    clear HE;have HR':Hid (ms x 14=false):=by show _=_;rw [HR.out,hr.1.1,hr.1.2,hr.2];rfl
    clear HR hr;by_cases hz:level=0
    ·subst hz;go_enter Tryz.func240,Tryz.ntmps240;go_wp2_with (first
      | (go_at_call 218;refine (cZ 0 _).mono ?_;rintro e w' ⟨rfl,rfl⟩;rw [HK.out])
      | (go_at_call 243;refine (iz x _ h0 h1).mono ?_;rintro e w' ⟨rfl,rfl⟩;rw [hs])
      | (go_at_call 220;refine (fE x _ _).mono ?_;rintro e w' ⟨rfl,rfl⟩;rw [HR'.out]))
     go_ret;exact ⟨bO (by rw [HE2.out];simp),rfl⟩
    ·have hz':(level == 0)=false:=by simpa using hz
     cases hu:(bS x 16 || bS x 64 || bS x 128)
     ·have HE3:Hid (bC x level=1):=by
       show _=_;simp only [Bool.or_eq_false_iff] at hu;rw [HE2.out,hu.1.1,hu.1.2,hu.2];simp [hz]
      go_enter Tryz.func240,Tryz.ntmps240;go_wp2_with (first
       | (go_at_call 218;refine (cZ level _).mono ?_;rintro e w' ⟨rfl,rfl⟩;rw [HK.out])
       | (go_at_call 243;refine (iz x _ h0 h1).mono ?_;rintro e w' ⟨rfl,rfl⟩;rw [hs])
       | (go_at_call 220;refine (fE x _ _).mono ?_;rintro e w' ⟨rfl,rfl⟩;first | rw [HR'.out] | rw [HU.out,hu]))
      go_ret;exact ⟨bO HE3.out.symm,rfl⟩
     ·have HE3:Hid (bC x level=0):=by
       show _=_;simp only [Bool.or_eq_true] at hu;rw [HE2.out,if_pos];rcases hu with (hu | hu) | hu <;> simp [hu]
      go_enter Tryz.func240,Tryz.ntmps240;go_wp2_with (first
       | (go_at_call 218;refine (cZ level _).mono ?_;rintro e w' ⟨rfl,rfl⟩;rw [HK.out])
       | (go_at_call 243;refine (iz x _ h0 h1).mono ?_;rintro e w' ⟨rfl,rfl⟩;rw [hs])
       | (go_at_call 220;refine (fE x _ _).mono ?_;rintro e w' ⟨rfl,rfl⟩;first | rw [HR'.out] | rw [HU.out,hu]))
      go_ret;exact ⟨bO HE3.out.symm,rfl⟩
   ·have HR':Hid (ms x 14=true):=by show _=_;rw [HR.out,hr]
    have HE2:Hid (bC x level=if 0<dy x%fN level then 0 else 2):=by
     show _=_;rw [HE.out,if_neg];rintro ⟨q1,q2,q3⟩;rw [q1,q2,q3] at hr;cases hr
    clear HE HR hr;have hnn:0≤dy x%fN level:=by
     apply Int.emod_nonneg;rcases hl with rfl | rfl | rfl <;> decide
    cases ha:(dy x%fN level == 0)
    ·have HE3:Hid (bC x level=0):=by
      show _=_;have:dy x%fN level≠0:=by simpa using ha
      rw [HE2.out,if_pos (by omega)]
     clear hnn;go_enter Tryz.func240,Tryz.ntmps240;go_wp2_with (first
      | (go_at_call 218;refine (cZ level _).mono ?_;rintro e w' ⟨rfl,rfl⟩;rw [HK.out])
      | (go_at_call 243;refine (iz x _ h0 h1).mono ?_;rintro e w' ⟨rfl,rfl⟩;rw [hs])
      | (go_at_call 220;refine (fE x _ _).mono ?_;rintro e w' ⟨rfl,rfl⟩;rw [HR'.out])
      | (go_at_call 244;refine (oK x level _ h0 h1 hl).mono ?_;rintro e w' ⟨rfl,rfl⟩;rw [ha]))
     go_ret;exact ⟨bO HE3.out.symm,rfl⟩
    ·have HE3:Hid (bC x level=2):=by
      show _=_;have:dy x%fN level=0:=by simpa using ha
      rw [HE2.out,if_neg (by omega)]
     clear hnn;go_enter Tryz.func240,Tryz.ntmps240;go_wp2_with (first
      | (go_at_call 218;refine (cZ level _).mono ?_;rintro e w' ⟨rfl,rfl⟩;rw [HK.out])
      | (go_at_call 243;refine (iz x _ h0 h1).mono ?_;rintro e w' ⟨rfl,rfl⟩;rw [hs])
      | (go_at_call 220;refine (fE x _ _).mono ?_;rintro e w' ⟨rfl,rfl⟩;rw [HR'.out])
      | (go_at_call 244;refine (oK x level _ h0 h1 hl).mono ?_;rintro e w' ⟨rfl,rfl⟩;rw [ha]))
     go_ret;exact ⟨bO HE3.out.symm,rfl⟩
 ·have HK:Hid (decide (0≤level∧level≤2)=false):=by show _=_;simpa using hlev
  have HE:Hid (bC x level=0):=by
   show _=_;rw [bC,if_pos (by omega)]
  clear hlev;go_enter Tryz.func240,Tryz.ntmps240;go_wp2_with (go_at_call 218;refine (cZ level _).mono ?_;rintro e w' ⟨rfl,rfl⟩;rw [HK.out]);go_ret;exact ⟨bO HE.out.symm,rfl⟩
end Go.Proofs.YthekickjjaleaaaGreat

namespace Go.Proofs.YthekickjjaleaaaGreat
open Go.RowKit
set_option linter.unusedVariables false
theorem ao {v:World} {p:Nat} {T:TypeId} {a b c:Value} (h:v.heap[p]?=some (.cells #[a,b,c] T (0,0))):
 (v.cell? ⟨p,0,none⟩=some a∧v.cell? ⟨p,1,none⟩=some b∧v.cell? ⟨p,2,none⟩=some c)∧v.frozen? ⟨p,0,none⟩=false∧v.frozen? ⟨p,1,none⟩=false∧v.frozen? ⟨p,2,none⟩=false:=by
 simp [World.cell?,World.frozen?,h]
theorem xk {v:World} {p:Nat} {T:TypeId} {a b c u:Value} (h:v.heap[p]?=some (.cells #[a,b,c] T (0,0))):(v.setCell ⟨p,2,none⟩ u).heap[p]?=some (.cells #[a,b,u] T (0,0)):=by
 simp [World.setCell,Array.getElem?_modify,h]
theorem gb3 (v:World) (g:Nat) (x y z:Value):v.grownBy (((v.setCell ⟨g,0,none⟩ x).setCell ⟨g,1,none⟩ y).setCell ⟨g,2,none⟩ z) (some g):=
 aq (aq (aq (az v (some g)) 0 x) 1 y) 2 z
theorem du {B:Nat} {a w:World} {g:Nat} (h:Below B a w) (hg:B≤g) (x y z:Value):Below B a (((w.setCell ⟨g,0,none⟩ x).setCell ⟨g,1,none⟩ y).setCell ⟨g,2,none⟩ z):=
 ((h.setCell (p:=⟨g,0,none⟩) hg x).setCell (p:=⟨g,1,none⟩) hg y).setCell (p:=⟨g,2,none⟩) hg z
theorem aX {e:TypeId} {size:Nat} {w:World} {base base' n:Nat} {v:Value} {cs:List Value} (h:w.ownsRow base e size v n cs) (hb:base'≤base):w.ownsRow base' e size v n cs:=by
 obtain ⟨h1,h2⟩:=h;refine ⟨h1,?_⟩;rcases h2 with h2 | ⟨g,cap,cur,h2,hb',r⟩
 ·exact .inl h2
 ·exact .inr ⟨g,cap,cur,h2,by omega,r⟩
theorem cK {e:TypeId} {size:Nat} {w w':World} {base n r:Nat} {v:Value} {cs:List Value} (h:w.ownsRow base e size v n cs) (hg:w.grownBy w' (some r)) (hr:r<base):w'.ownsRow base e size v n cs:=by
 refine h.kept hg ?_;rcases h.2 with ⟨rfl,_⟩ | ⟨g,cap,cur,rfl,hb',_⟩
 ·exact .inl rfl
 ·refine .inr ?_;simp [Value.ownBlock];omega
theorem ak {e:TypeId} {size:Nat} {w w':World} {base n:Nat} {v:Value} {cs:List Value} (h:w.ownsRow base e size v n cs) (hb:Below w.heap.size w w'):w'.ownsRow base e size v n cs:=by
 obtain ⟨h1,h2⟩:=h;refine ⟨h1,?_⟩;rcases h2 with h2 | ⟨g,cap,cur,h2,hb',hg,r⟩
 ·exact .inl h2
 ·refine .inr ⟨g,cap,cur,h2,hb',?_,r⟩;exact ab hg hb (Array.getElem?_eq_some_iff.1 hg).1
theorem mM {P:Program} (w:World) {o:Oper} {a:Act} {K:Act→World→Prop} {Q:Exit→Act→World→Prop} (s x:Operand) (t:TypeId)
 (ho:o.op=.call { callee:=.builtin .append,args:=#[s,x],argTypes:=#[t,t] }) (e:TypeId) (ht:P.underlying t=some (.slice e)) (z:Value) (size bytes:Nat)
 (hi:(P.info? e).map (fun i=>(i.zero,i.size,i.bytes))=some (some z,size,bytes)) (hzs:z.cells.size=size) (hsz:0<size)
 (base n:Nat) (v:Value) (cs:List Value) (hs:a.eval s=v) (hown:w.ownsRow base e size v n cs)
 (b off m c:Nat) (ys:List Value) (hx:a.eval x=.slice (some ⟨b,off,none⟩) m c) (hm:0<m) (hy:RowC w (some ⟨b,off,none⟩) m size ys) (h1:∀u∈ys,u.oneCell'=true)
 (hbd:(n+m)*bytes≤140737488355328) (hbd':n+m≤9223372036854775807)
 (hbw:base≤w.heap.size) (B:Nat) (W:World) (hb:Below B W w) (hB:B≤base)
 (h:∀g' cap' w',w'.ownsRow base e size (.slice (some ⟨g',0,none⟩) (n+m) cap') (n+m) (cs++ys)→Below B W w'→K (a.put o.dst (.slice (some ⟨g',0,none⟩) (n+m) cap')) w'):o.wp P a w K Q:=by
 obtain ⟨i0,hi,hz0,hz1,hz2⟩:=info_parts hi;refine wp_append_own w s x t ho base e i0 z size bytes ht hi hz0 hz1 hz2 hzs hsz v n _ hs hown ⟨b,off,none⟩ m c ys hx hy.1 (nl hy) h1 (by unfold maxLen;omega) hbd (by omega) ?_;intro v' w' h1 h2 h3;have hbl:Below B W w':=hb.grown h2 (by omega) (fun k hk=>by have:=(hown.lt k hk).1;omega);rcases h1.2 with ⟨e1,e2⟩ | ⟨g,cap,cur,e1,r⟩
 ·omega
 ·subst e1;exact h g cap w' h1 hbl
theorem rZ {P:Program} (w:World) {ops:Array Oper} {rest:List Oper} {o:Oper} {a:Act} {Q:Exit→Act→World→Prop} (hgd:o.guard=none) (s x:Operand) (t:TypeId)
 (ho:o.op=.call { callee:=.builtin .append,args:=#[s,x],argTypes:=#[t,t] }) (e:TypeId) (ht:P.underlying t=some (.slice e)) (z:Value) (size bytes:Nat)
 (hi:(P.info? e).map (fun i=>(i.zero,i.size,i.bytes))=some (some z,size,bytes)) (hzs:z.cells.size=size) (hsz:0<size)
 (base n:Nat) (v:Value) (cs:List Value) (hs:a.eval s=v) (hown:w.ownsRow base e size v n cs)
 (b off m c:Nat) (ys:List Value) (hx:a.eval x=.slice (some ⟨b,off,none⟩) m c) (hm:0<m) (hy:RowC w (some ⟨b,off,none⟩) m size ys) (h1:∀u∈ys,u.oneCell'=true)
 (hbd:(n+m)*bytes≤140737488355328) (hbd':n+m≤9223372036854775807)
 (hbw:base≤w.heap.size) (B:Nat) (W:World) (hb:Below B W w) (hB:B≤base)
 (h:∀g' cap' w',w'.ownsRow base e size (.slice (some ⟨g',0,none⟩) (n+m) cap') (n+m) (cs++ys)→Below B W w'→wpList P ops Q rest (a.put o.dst (.slice (some ⟨g',0,none⟩) (n+m) cap')) w'):wpList P ops Q (o::rest) a w:=
 wpList_plain hgd fun _ hK=>mM w s x t ho e ht z size bytes hi hzs hsz base n v cs hs hown b off m c ys hx hm hy h1 hbd hbd' hbw B W hb hB fun g' cap' w' h2 h3=>hK _ _ (h g' cap' w' h2 h3)
theorem iB {e:TypeId} {size:Nat} {w:World} {base n:Nat} {v:Value} {cs:List Value} (h:w.ownsRow base e size v n cs):w.drew.ownsRow base e size v n cs:=h
def CurAt (e:TypeId) (w:World) (g m:Nat) (cs:List Value):Prop:=cs.length=m∧∃cur,w.heap[g]?=some (.cells cur e (0,0))∧cur.toList.take m=cs
theorem CurAt.lt {e:TypeId} {w:World} {g m:Nat} {cs:List Value} (h:CurAt e w g m cs):g<w.heap.size:=by
 obtain ⟨_,cur,h2,_⟩:=h;exact (Array.getElem?_eq_some_iff.1 h2).1
theorem CurAt.cell {e:TypeId} {w:World} {g m:Nat} {cs:List Value} (h:CurAt e w g m cs) (j:Nat) (u:Value) (hj:cs[j]?=some u):w.cell? ⟨g,j,none⟩=some u:=by
 obtain ⟨h1,cur,h2,h3⟩:=h;subst h3;rw [List.getElem?_take] at hj;split at hj
 ·simp only [World.cell?,h2];simpa using hj
 ·cases hj
theorem CurAt.free {e:TypeId} {w:World} {g m:Nat} {cs:List Value} (h:CurAt e w g m cs) (j:Nat):w.frozen? ⟨g,j,none⟩=false:=by
 obtain ⟨h1,cur,h2,h3⟩:=h;simp [World.frozen?,h2]
theorem CurAt.store {e:TypeId} {w:World} {g m:Nat} {cs:List Value} (h:CurAt e w g m cs) (j:Nat) (u:Value):CurAt e (w.setCell ⟨g,j,none⟩ u) g m (cs.set j u):=by
 obtain ⟨h1,cur,h2,h3⟩:=h;refine ⟨by simpa using h1,cur.setIfInBounds j u,by simp [World.setCell,Array.getElem?_modify,h2],?_⟩;subst h3;rw [Array.toList_setIfInBounds,List.take_set]
theorem CurAt.gb {e:TypeId} {w w':World} {g m r:Nat} {cs:List Value} (h:CurAt e w g m cs) (hg:w.grownBy w' (some r)) (hne:g≠r):CurAt e w' g m cs:=by
 obtain ⟨h1,cur,h2,h3⟩:=h;exact ⟨h1,cur,aw h2 hg hne,h3⟩
theorem CurAt.of_own {e:TypeId} {size:Nat} {w:World} {base g n cap:Nat} {cs:List Value} (h:w.ownsRow base e size (.slice (some ⟨g,0,none⟩) n cap) n cs):CurAt e w g (n*size) cs∧base≤g:=by
 obtain ⟨h1,h2⟩:=h;rcases h2 with ⟨h2,_⟩ | ⟨g',cap',cur,h2,hb,hg,_,_,_,ht⟩
 ·cases h2
 ·cases h2;exact ⟨⟨h1,cur,hg,ht⟩,hb⟩
theorem fH {e:TypeId} {size:Nat} {w:World} {base n:Nat} {a:Option Addr} {cap:Nat} {cs:List Value} (h:w.ownsRow base e size (.slice a n cap) n cs):RowC w a n size cs:=by
 cases a with
 | none=>
  obtain ⟨h1,h2⟩:=h;rcases h2 with ⟨_,h2⟩ | ⟨g',cap',cur,h2,_⟩
  ·subst h2;exact ⟨h1,.inl rfl⟩
  ·cases h2
 | some q=>
  have hq:q=⟨q.block,0,none⟩:=by
   obtain ⟨h1,h2⟩:=h;rcases h2 with ⟨h2,_⟩ | ⟨g',cap',cur,h2,_⟩
   ·cases h2
   ·cases h2;rfl
  rw [hq] at h ⊢;have:=CurAt.of_own h;refine ⟨h.1,.inr ⟨q.block,0,rfl,this.1.lt,fun i u hu=>?_⟩⟩;rw [Nat.zero_add];exact this.1.cell i u hu
theorem bV {e:TypeId} {size:Nat} {w:World} {base n cap:Nat} {q:Addr} {cs:List Value} (h:w.ownsRow base e size (.slice (some q) n cap) n cs):q=⟨q.block,0,none⟩∧base≤q.block∧q.block<w.heap.size:=by
 rcases h.2 with ⟨h2,_⟩ | ⟨g',cap',cur,h2,hb,hg,_⟩
 ·cases h2
 ·cases h2;exact ⟨rfl,hb,(Array.getElem?_eq_some_iff.1 hg).1⟩
theorem eD {a b c:World} {r:Option Nat} (h:a.grownBy b r) (k:b.grownBy c r):a.grownBy c r:=
 ⟨k.os.trans h.os,k.tape.trans h.tape,k.output.trans h.output,Nat.le_trans h.size k.size,fun i hi hn=>(k.block i (Nat.lt_of_lt_of_le hi h.size) hn).trans (h.block i hi hn)⟩
theorem ae {w w':World} {b:Nat} {o:Obj} (h:Hid (w.heap[b]?=some o)) (n:Below w.heap.size w w'):Hid (w'.heap[b]?=some o):=ab h.out n (Array.getElem?_eq_some_iff.1 h.out).1
end Go.Proofs.YthekickjjaleaaaGreat
