import Derived.Test.YthdgiakgepmabaaGreatDk03
namespace Go.Proofs.YthdgiakgepmabaaGreat
open Go.RowKit
set_option linter.unusedVariables false
set_option maxHeartbeats 6400000
set_option maxRecDepth 20000
section
attribute [local go_sem ↓] Go.wp_at_zero Go.wp_at_succ
def jJ (va asid l:Int) (x:EntM):Bool:=x.level == l && ko x va asid
def dU (va asid l:Int):Nat->List EntM->Option (Nat × EntM)
 | _,[]=>none
 | i,e::r=>if jJ va asid l e=true then some (i,e) else dU va asid l (i+1) r
def iD (l:Int):Option (Nat × EntM)->Option (Bool × Int × Int × Int)
 | none=>none
 | some (i,e)=>some (true,(i:Int),l,e.pte)
def bX (t:TlbM) (va asid:Int):Bool × Int × Int × Int:=
 if iY t=false then (false,0,0,0)
 else ((iD 0 (dU va asid 0 0 t.es)).or ((iD 1 (dU va asid 1 0 t.es)).or (iD 2 (dU va asid 2 0 t.es)))).getD (false,0,0,0)
theorem rG (va asid l:Int):∀(es:List EntM) (i:Nat),(∀(j:Nat) x,es[j]?=some x->jJ va asid l x=false)->dU va asid l i es=none
 | [],i,h=>rfl
 | e::r,i,h=>by
  rw [dU,if_neg (by rw [h 0 e rfl];simp)];exact rG va asid l r (i+1) (fun j x hx=>h (j+1) x (by simpa using hx))
theorem rH (va asid l:Int):∀(es:List EntM) (i k:Nat) (x:EntM),es[k]?=some x->jJ va asid l x=true->(∀j y,j<k->es[j]?=some y->jJ va asid l y=false)->dU va asid l i es=some (i+k,x)
 | e::r,i,0,x,hx,hh,h=>by
  simp at hx;subst hx;rw [dU,if_pos hh];rfl
 | e::r,i,k+1,x,hx,hh,h=>by
  rw [dU,if_neg (by rw [h 0 e (by omega) rfl];simp),rH va asid l r (i+1) k x (by simpa using hx) hh (fun j y hj hy=>h (j+1) y (by omega) (by simpa using hy))];congr 2;omega
theorem ms (t:TlbM) (p:Bool):∀(es:List EntM) (i:Nat),iA t p i es=true->∀j x,es[j]?=some x->dh t p (i+j) x=true
 | e::r,i,h,0,x,hx=>by
  simp at hx;subst hx;simp only [iA,Bool.and_eq_true] at h;exact h.1
 | e::r,i,h,j+1,x,hx=>by
  simp only [iA,Bool.and_eq_true] at h;have:=ms t p r (i+1) h.2 j x (by simpa using hx);rw [show i+(j+1)=i+1+j by omega];exact this
theorem qw {t:TlbM} {p:Bool} {i:Nat} {x:EntM} (h:dh t p i x=true) (hv:x.valid=true):0<=x.level∧x.level<=2:=by
 simp only [dh,Bool.or_eq_true,Bool.and_eq_true] at h;rcases h with h | h
 ·rw [hv] at h;simp at h
 ·have:=h.1;simp only [bB,Bool.and_eq_true,decide_eq_true_eq] at this;exact ⟨this.1.1.1.1.1.2,this.1.1.1.1.2⟩
theorem eZ {t:TlbM} (h:iY t=true) (j:Nat) (x:EntM) (hx:t.es[j]?=some x) (hv:x.valid=true):0<=x.level∧x.level<=2:=by
 simp only [iY,aY,Bool.or_eq_true,Bool.and_eq_true] at h;rcases h with h | h
 ·exact qw (ms t true t.es 0 h.2 j x hx) hv
 ·exact qw (ms t false t.es 0 h.2 j x hx) hv
theorem ED (t:TlbM) (va asid:Int) (l k:Nat) (x:EntM) (he:iY t=true) (hl:l<=2) (hp:∀l':Nat,l'<l->dU va asid l' 0 t.es=none) (hf:dU va asid l 0 t.es=some (k,x)):
 bX t va asid=(true,(k:Int),(l:Int),x.pte):=by
 unfold bX;rw [if_neg (by rw [he];simp)];rcases (show l=0∨l=1∨l=2 by omega) with rfl | rfl | rfl
 ·have hf':dU va asid 0 0 t.es=some (k,x):=hf;rw [hf'];rfl
 ·have h0:dU va asid 0 0 t.es=none:=hp 0 (by omega);have hf':dU va asid 1 0 t.es=some (k,x):=hf;rw [h0,hf'];rfl
 ·have h0:dU va asid 0 0 t.es=none:=hp 0 (by omega);have h1:dU va asid 1 0 t.es=none:=hp 1 (by omega);have hf':dU va asid 2 0 t.es=some (k,x):=hf;rw [h0,h1,hf'];rfl
theorem AY (t:TlbM) (va asid:Int) (he:iY t=true) (hp:∀l':Nat,l'<3->dU va asid l' 0 t.es=none):bX t va asid=(false,0,0,0):=by
 have h0:dU va asid 0 0 t.es=none:=hp 0 (by omega);have h1:dU va asid 1 0 t.es=none:=hp 1 (by omega);have h2:dU va asid 2 0 t.es=none:=hp 2 (by omega);unfold bX;rw [if_neg (by rw [he];simp),h0,h1,h2];rfl
end
structure FenceM where
 hasVa:Bool
 va:Int
 hasAsid:Bool
 asid:Int
def eD (f:FenceM) (level tag asid:Int) (glob:Bool):Bool:=
 !(f.hasVa && (!cR f.va || tag != dP f.va level)) && (!f.hasAsid || (!glob && asid == f.asid))
def cS (f:FenceM) (e:EntM):EntM:=if (e.valid && eD f e.level e.tag e.asid e.glob)=true then cM else e
def mg (es:List EntM) (first:Nat):Nat->Nat->Option Nat
 | _,0=>none
 | w,left+1=>if (es[first+w]?.getD cM).valid=false then some w else mg es first (w+1) left
structure KM where
 i:TlbM
 d:TlbM
 p:TlbM
def ey:TlbM:=⟨0,0,[]⟩
def k0M:KM:=⟨ey,ey,ey⟩
def cz (k:KM):Bool:=aY k.i false && aY k.d false && aY k.p true
def iL (level va satp pte:Int):EntM:=⟨true,level,dP va level,aN satp,bJ pte 32,pte⟩
def gW (t:TlbM) (f:FenceM):TlbM:=if iY t=true then ⟨t.sets,t.ways,t.es.map (cS f)⟩ else t
def vS (t:TlbM) (e:EntM):Bool:=(aY t true && bB e true) || (aY t false && bB e false)
def gn (t:TlbM) (e:EntM):Nat:=(e.tag%t.sets*t.ways).toNat
def oz (t:TlbM) (e:EntM) (pick:Int):Nat:=(mg t.es (gn t e) 0 t.ways.toNat).getD (pick%t.ways).toNat
def eE (t:TlbM) (e:EntM) (pick:Int):TlbM:=
 if vS t e=true∧0<=pick∧pick<=255 then ⟨t.sets,t.ways,t.es.set (gn t e+oz t e pick) e⟩ else t
def db (va satp pick:Int):List aP->TlbM->TlbM
 | [],p=>p
 | r::rs,p=>db va satp pick rs (if aU r.2.2 r.1=1 then eE p (iL r.1 va satp r.2.2) pick else p)
def aX (zs:List Int) (satp va:Int) (up:Bool × Int × Int × Int):Int × Int × Int × List aP:=
 if up.1=true then bu zs va (up.2.2.1-1).toNat (dA up.2.2.2) else bD zs satp va
def vU (k:KM) (kind:Int) (t:TlbM):KM:=if kind=0 then ⟨t,k.d,k.p⟩ else ⟨k.i,t,k.p⟩
def eY (k:KM) (kind:Int):TlbM:=if kind=0 then k.i else k.d
def bZ (zs:List Int) (mode:Int) (sum mxr:Bool) (satp:Int) (k:KM) (kind va pick:Int):(Int × Int) × KM:=
 if cz k=false∨kind<0∨2<kind∨mode<0∨2<mode∨pick<0∨255<pick then ((63,0),k0M)
 else if onM mode satp=false then ((0,va),k)
 else if cR va=false then ((eU kind,0),k)
 else if (bX (eY k kind) va (aN satp)).1=true then (fT (bX (eY k kind) va (aN satp)).2.2.2 (bX (eY k kind) va (aN satp)).2.2.1 mode sum mxr kind va,k)
 else
  let r:=aX zs satp va (bX k.p va (aN satp))
  let a:=cK r mode sum mxr kind va
  let k':KM:=⟨k.i,k.d,db va satp pick r.2.2.2 k.p⟩
  (a,if a.1=0 then vU k' kind (eE (eY k kind) (iL r.2.1 va satp r.2.2.1) pick) else k')
theorem fS {t:TlbM} {p:Bool} (h:aY t p=true):(t.sets=1∨t.sets=2∨t.sets=4∨t.sets=8)∧1<=t.ways∧t.ways<=4∧(t.es.length:Int)=t.sets*t.ways:=by
 simp only [aY,Bool.and_eq_true,kN,decide_eq_true_eq] at h;exact h.1
theorem iM {t:TlbM} {p:Bool} (h:aY t p=true) (j:Nat) (x:EntM) (hx:t.es[j]?=some x):dh t p j x=true:=by
 simp only [aY,Bool.and_eq_true] at h;have:=ms t p t.es 0 h.2 j x hx;simpa using this
theorem th {t:TlbM} {p:Bool} (h:kN t=true) (hp:∀(j:Nat) x,t.es[j]?=some x->dh t p j x=true):aY t p=true:=by
 simp only [aY,Bool.and_eq_true];exact ⟨h,gP t p t.es 0 (fun j x hx=>by simpa using hp j x hx)⟩
theorem dS {t:TlbM} {p:Bool} (h:aY t p=true):iY t=true:=by
 cases p <;> simp [iY,h]
theorem yv (es:List EntM) (first:Nat):∀(left w r:Nat),mg es first w left=some r->w<=r∧r<w+left
 | 0,w,r,h=>by simp [mg] at h
 | left+1,w,r,h=>by
  rw [mg] at h;split at h
  ·cases h;omega
  ·have:=yv es first left (w+1) r h
   omega
theorem FB (t:TlbM) (e:EntM) (pick:Int) (hw:1<=t.ways) (hw':t.ways<=4):(oz t e pick:Int)<t.ways:=by
 unfold oz;cases h:mg t.es (gn t e) 0 t.ways.toNat with
 | none=>
  simp only [Option.getD_none];have h1:0<=pick%t.ways:=Int.emod_nonneg _ (by omega);have h2:pick%t.ways<t.ways:=Int.emod_lt_of_pos _ (by omega);omega
 | some r=>
  simp only [Option.getD_some];have:=yv _ _ _ _ _ h;omega
theorem DR {t:TlbM} {e:EntM} (ht:0<=e.tag) (hs:t.sets=1∨t.sets=2∨t.sets=4∨t.sets=8) (hw:1<=t.ways):(gn t e:Int)=e.tag%t.sets*t.ways:=by
 unfold gn;have:0<=e.tag%t.sets:=Int.emod_nonneg _ (by omega);have:=Int.mul_nonneg this (by omega:0<=t.ways);omega
theorem FC {t:TlbM} {p:Bool} {e:EntM} {pick:Int} (hv:aY t p=true) (ht:0<=e.tag):((gn t e+oz t e pick:Nat):Int)/t.ways=e.tag%t.sets:=by
 obtain ⟨hs,hw,hw',hl⟩:=fS hv;have h1:=DR (e:=e) ht hs hw;have h2:=FB t e pick hw hw';rw [show ((gn t e+oz t e pick:Nat):Int)=(oz t e pick:Int)+(e.tag%t.sets)*t.ways by omega,Int.add_mul_ediv_right _ _ (by omega)];rw [Int.ediv_eq_zero_of_lt (by omega) h2];omega
theorem qd {e:EntM} {p:Bool} (h:bB e p=true):aU e.pte e.level=qG p:=by
 simp only [bB,Bool.and_eq_true,beq_iff_eq] at h;exact h.2
theorem kW (t:TlbM) (e:EntM) (pick:Int) (p:Bool) (hv:aY t p=true) (hg:bB e p=true) (ht:0<=e.tag):aY (eE t e pick) p=true:=by
 unfold eE;split
 ·have hs:=fS hv;refine th ?_ ?_
  ·simp only [kN,decide_eq_true_eq,List.length_set];exact hs
  ·intro j x hx;simp only [List.getElem?_set] at hx;split at hx
   ·rename_i hj;split at hx
    ·cases hx;subst hj;simp only [dh,Bool.or_eq_true,Bool.and_eq_true,beq_iff_eq];exact .inr ⟨hg,(FC (pick:=pick) hv ht).symm⟩
    ·cases hx
   ·exact iM hv j x hx
 ·exact hv
theorem mj (t:TlbM) (f:FenceM) (p:Bool) (hv:aY t p=true):aY (gW t f) p=true:=by
 unfold gW;rw [if_pos (dS hv)];have hs:=fS hv;refine th ?_ ?_
 ·simp only [kN,decide_eq_true_eq,List.length_map];exact hs
 ·intro j x hx;simp only [List.getElem?_map,Option.map_eq_some_iff] at hx;obtain ⟨y,hy,rfl⟩:=hx;have:=iM hv j y hy;unfold cS;split
  ·simp [dh,cM]
  ·exact this
structure HartM where
 mem:List Int
 regs:List Int
 pc:Int
 mode:Int
 sum:Bool
 mxr:Bool
 satp:Int
 tvec:Int
 epc:Int
 emode:Int
 cause:Int
 tval:Int
 k:KM
structure RunM where
 h:HartM
 cause:Int
 tval:Int
 looks:List (Int × Int)
 fenced:Bool
 fence:FenceM
def eQ:FenceM:=⟨false,0,false,0⟩
def de (satp:Int):Bool:=satp/1152921504606846976%16 == 0 || satp/1152921504606846976%16 == 8
def ez (n:Nat):Bool:=decide (n%64=0∧64<=n∧n<=4096)
def iB (h:HartM):Bool:=
 decide (h.regs.length=8) && (h.regs[0]?.getD 0 == 0) && decide (0<=h.mode∧h.mode<=2) && decide (0<=h.emode∧h.emode<=2) && de h.satp && (h.tvec%4 == 0) && decide (0<=h.cause∧h.cause<=63)
def rn (h:HartM):Bool:=ez h.mem.length && iB h && cz h.k
def aT (plain:Bool) (pick:Int) (h:HartM) (kind va:Int):(Int × Int) × KM:=
 if plain=true then (fP h.mem h.mode h.sum h.mxr h.satp kind va,h.k) else bZ h.mem h.mode h.sum h.mxr h.satp h.k kind va pick
def withK (h:HartM) (k:KM):HartM:=⟨h.mem,h.regs,h.pc,h.mode,h.sum,h.mxr,h.satp,h.tvec,h.epc,h.emode,h.cause,h.tval,k⟩
def dV (h:HartM) (mem:List Int):HartM:=⟨mem,h.regs,h.pc,h.mode,h.sum,h.mxr,h.satp,h.tvec,h.epc,h.emode,h.cause,h.tval,h.k⟩
def eH (h:HartM) (regs:List Int):HartM:=⟨h.mem,regs,h.pc,h.mode,h.sum,h.mxr,h.satp,h.tvec,h.epc,h.emode,h.cause,h.tval,h.k⟩
def dL (h:HartM) (pc:Int):HartM:=⟨h.mem,h.regs,pc,h.mode,h.sum,h.mxr,h.satp,h.tvec,h.epc,h.emode,h.cause,h.tval,h.k⟩
def bA (r:RunM) (h:HartM):RunM:=⟨h,r.cause,r.tval,r.looks,r.fenced,r.fence⟩
def bI (r:RunM) (cause tval:Int):RunM:=⟨r.h,cause,tval,r.looks,r.fenced,r.fence⟩
def bf (plain:Bool) (pick:Int) (r:RunM) (kind va:Int):RunM:=
 ⟨withK r.h (aT plain pick r.h kind va).2,r.cause,r.tval,r.looks++[(kind,va)],r.fenced,r.fence⟩
abbrev bw:=Int × Int × Int
def cD (va w:Int):List bw:=
 if 64-va%64<w then [(va,64-va%64,0),((va+(64-va%64))%18446744073709551616,w-(64-va%64),0)] else [(va,w,0)]
def ag (plain:Bool) (pick kind:Int):RunM->List bw->RunM × List bw
 | r,[]=>(r,[])
 | r,p::ps=>
  if (aT plain pick r.h kind p.1).1.1=0 then
   ((ag plain pick kind (bf plain pick r kind p.1) ps).1,(p.1,p.2.1,(aT plain pick r.h kind p.1).1.2)::(ag plain pick kind (bf plain pick r kind p.1) ps).2)
  else (bI (bf plain pick r kind p.1) (aT plain pick r.h kind p.1).1.1 p.1,p::ps)
def fL (mem:List Int):List bw->Option Int
 | []=>none
 | p::ps=>if fD mem.length p.2.2 p.2.1=true then fL mem ps else some p.1
def aw (plain:Bool) (pick:Int) (r:RunM) (kind va w:Int):RunM × List bw:=
 if (ag plain pick kind r (cD va w)).1.cause=0 then
  match fL (ag plain pick kind r (cD va w)).1.h.mem (ag plain pick kind r (cD va w)).2 with
  | none=>ag plain pick kind r (cD va w)
  | some v=>(bI (ag plain pick kind r (cD va w)).1 (bO kind) v,(ag plain pick kind r (cD va w)).2)
 else ag plain pick kind r (cD va w)
def cE (mem:List Int):List bw->List Int
 | []=>[]
 | p::ps=>(mem.drop p.2.2.toNat).take p.2.1.toNat++cE mem ps
def iS (mem:List Int) (ps:List bw):Int:=num (cE mem ps)
def iN:List Int->List bw->List Int->List Int
 | mem,[],_=>mem
 | mem,p::ps,b=>iN (put mem p.2.2.toNat (b.take p.2.1.toNat)) ps (b.drop p.2.1.toNat)
def fO (h:HartM) (a:Int):Int:=h.regs[a.toNat]?.getD 0
def bW (r:RunM) (a x:Int):RunM:=bA r (eH r.h (if 0<a then r.h.regs.set a.toNat x else r.h.regs))
def hZ (s:Int):Int:=if 128<=s then s-256 else s
def iO (n:Int):Int:=2^n.toNat
def bH (op c mode:Int):Bool:=
 decide (9<=op∧op<=11∧mode=0) || decide ((op=12∨op=13)∧mode≠2) || decide (op=13∧2<c)
def jQ (h:HartM) (a b:Int):FenceM:=⟨decide (a≠0),fO h a,decide (b≠0),fO h b%65536⟩
def iT (k:KM) (f:FenceM):KM:=⟨gW k.i f,gW k.d f,gW k.p f⟩
def ia (plain:Bool) (pick:Int) (r:RunM) (ea w a:Int):RunM:=
 if (aw plain pick r 1 ea w).1.cause=0 then bW (aw plain pick r 1 ea w).1 a (iS (aw plain pick r 1 ea w).1.h.mem (aw plain pick r 1 ea w).2) else (aw plain pick r 1 ea w).1
def cT (t:RunM × List bw) (b:List Int):RunM:=bA t.1 (dV t.1.h (iN t.1.h.mem t.2 b))
def fx (plain:Bool) (pick:Int) (r:RunM) (ea w x:Int):RunM:=
 if (aw plain pick r 2 ea w).1.cause=0 then cT (aw plain pick r 2 ea w) (bM x w.toNat) else (aw plain pick r 2 ea w).1
def lC (plain:Bool) (pick:Int) (r:RunM) (ea a x:Int):RunM:=
 if (aw plain pick r 2 ea 8).1.cause=0 then bW (cT (aw plain pick r 2 ea 8) (bM ((iS (aw plain pick r 2 ea 8).1.h.mem (aw plain pick r 2 ea 8).2+x)%18446744073709551616) 8)) a (iS (aw plain pick r 2 ea 8).1.h.mem (aw plain pick r 2 ea 8).2) else (aw plain pick r 2 ea 8).1
def eaM (h:HartM) (b s:Int):Int:=(fO h b+hZ s)%18446744073709551616
def doM (plain:Bool) (pick:Int) (r:RunM) (pc op a b c s word:Int):RunM:=
 if bH op c r.h.mode=true then bI r 2 word
 else if op=1 then bW r a (hZ s%18446744073709551616)
 else if op=2 then bW r a ((fO r.h b+fO r.h c)%18446744073709551616)
 else if op=3 then bW r a (eaM r.h b s)
 else if op=4 then bW r a (fO r.h b*iO (s%64)%18446744073709551616)
 else if op=5 then ia plain pick r (eaM r.h b s) (iO (c%4)) a
 else if op=6 then fx plain pick r (eaM r.h b s) (iO (c%4)) (fO r.h a)
 else if op=7 then lC plain pick r (eaM r.h b s) a (fO r.h c)
 else if op=8 then (if fO r.h a=fO r.h b then r else bA r (dL r.h ((pc+4*hZ s)%18446744073709551616)))
 else if op=9 then (if de (fO r.h a)=true then bA r ⟨r.h.mem,r.h.regs,r.h.pc,r.h.mode,r.h.sum,r.h.mxr,fO r.h a,r.h.tvec,r.h.epc,r.h.emode,r.h.cause,r.h.tval,r.h.k⟩ else r)
 else if op=10 then bA r ⟨r.h.mem,r.h.regs,r.h.pc,r.h.mode,bJ (fO r.h a) 1,bJ (fO r.h a) 2,r.h.satp,r.h.tvec,r.h.epc,r.h.emode,r.h.cause,r.h.tval,r.h.k⟩
 else if op=11 then ⟨if plain=true then r.h else withK r.h (iT r.h.k (jQ r.h a b)),r.cause,r.tval,r.looks,true,jQ r.h a b⟩
 else if op=12 then bA r ⟨r.h.mem,r.h.regs,(r.h.epc+4*hZ s)%18446744073709551616,r.h.emode,r.h.sum,r.h.mxr,r.h.satp,r.h.tvec,r.h.epc,r.h.emode,r.h.cause,r.h.tval,r.h.k⟩
 else if op=13 then bA r ⟨r.h.mem,r.h.regs,r.h.pc,r.h.mode,r.h.sum,r.h.mxr,r.h.satp,r.h.tvec,fO r.h a,c,r.h.cause,r.h.tval,r.h.k⟩
 else if op=14 then bI r (8+r.h.mode) 0
 else bI r 2 word
def eT (plain:Bool) (pick:Int) (r:RunM) (op p q s word:Int):RunM:=
 doM plain pick (bA r (dL r.h ((r.h.pc+4)%18446744073709551616))) r.h.pc op (p%8) (p/8%8) (q%8) s word
def bh (t:TlbM) (n:Int):TlbM:=⟨t.sets,t.ways,t.es.set (n%t.es.length).toNat cM⟩
def eR (plain:Bool) (pick:Int) (k:KM):KM:=
 if 128<=pick∧plain=false then ⟨bh k.i (pick-128),bh k.d (pick-128),bh k.p (pick-128)⟩ else k
def iP (plain:Bool) (pick:Int) (h:HartM):Int:=rdV h.mem (aT plain pick h 0 h.pc).1.2 4
def gE (plain:Bool) (pick:Int) (r:RunM) (x:Int):RunM:=eT plain pick r (x%256) (x/256%256) (x/65536%256) (x/16777216) x
def cY (plain:Bool) (pick:Int) (r:RunM):RunM:=
 if r.h.pc%4=0 then
  if (aT plain pick r.h 0 r.h.pc).1.1=0 then
   if dO r.h.mem.length (aT plain pick r.h 0 r.h.pc).1.2 4=true then gE plain pick (bf plain pick r 0 r.h.pc) (iP plain pick r.h)
   else bI (bf plain pick r 0 r.h.pc) 1 r.h.pc
  else bI (bf plain pick r 0 r.h.pc) (aT plain pick r.h 0 r.h.pc).1.1 r.h.pc
 else bI r 20 r.h.pc
def bx (plain:Bool) (pick:Int) (h:HartM):RunM:=⟨withK h (eR plain pick h.k),0,0,[],false,eQ⟩
def dm (h:HartM) (r:RunM):HartM:=⟨h.mem,h.regs,h.tvec,2,h.sum,h.mxr,h.satp,h.tvec,h.pc,h.mode,r.cause,r.tval,r.h.k⟩
def kX (h:HartM) (r:RunM):RunM:=if r.cause=0 then r else bA r (dm h r)
def bT (plain:Bool) (pick:Int) (h:HartM):RunM:=kX h (cY plain pick (bx plain pick h))
structure EvM where
 pc:Int
 mode:Int
 cause:Int
 tval:Int
def eI (plain:Bool):List Int->HartM->List EvM × HartM
 | [],h=>([],h)
 | p::ps,h=>(⟨h.pc,h.mode,(bT plain p h).cause,(bT plain p h).tval⟩::(eI plain ps (bT plain p h).h).1,(eI plain ps (bT plain p h).h).2)
def atM (b:List Int) (i:Nat):Int:=b[i]?.getD 0
def cw (b:List Int) (i:Nat):Int:=num ((List.range 8).map fun k=>atM b (i+k))
def ac (y:Int):TlbM:=⟨2^(y%4).toNat,1+y/4%4,List.replicate (2^(y%4).toNat*(1+y/4%4).toNat) cM⟩
def lE (b:List Int):Nat->Nat->Nat->List Int->List Int
 | 0,_,_,mem=>mem
 | m+1,i,a,mem=>lE b m (i+1) (a+1) (if a<mem.length then mem.set a (atM b i) else mem)
def qN (b:List Int) (i:Nat):Nat:=(atM b i+256*atM b (i+1)).toNat
def iV (b:List Int):Nat->Nat->List Int->List Int × Nat
 | 0,i,mem=>(mem,i)
 | n+1,i,mem=>iV b n (i+3+(atM b (i+2)).toNat) (lE b (atM b (i+2)).toNat (i+3) (qN b i) mem)
def bQ (y:Int):Int:=if y%4=3 then 1 else y%4
def iU (b:List Int):Nat:=min (atM b 5+256*atM b 6).toNat 20000
def qU (b:List Int):List Int × Nat:=iV b (atM b 87).toNat 88 (List.replicate (64*(1+(atM b 3%64).toNat)) 0)
def jD (b:List Int):List Int:=0::(List.range 7).map fun r=>cw b (31+8*r)
def aJ (b:List Int):HartM:=
 ⟨(qU b).1,jD b,cw b 7,bQ (atM b 4),atM b 4/4%2 == 1,atM b 4/8%2 == 1,if de (cw b 23)=true then cw b 23 else 0,cw b 15/4*4,0,bQ (atM b 4),0,0,⟨ac (atM b 0),ac (atM b 1),ac (atM b 2)⟩⟩
def bE (b:List Int):List Int:=(List.range (iU b)).map fun k=>atM b ((qU b).2+k)
theorem oq (zs:List Int) (va:Int):∀(l:Nat) (n:Int),(bu zs va l n).1=1∨(bu zs va l n).1=2∨(bu zs va l n).1=3
 | 0,n=>by
  unfold bu;split
  ·simp
  ·split
   ·simp
   ·split <;> simp
 | l+1,n=>by
  unfold bu;split
  ·simp
  ·split
   ·simp
   ·split
    ·simp
    ·exact oq zs va l _
theorem kP (zs:List Int) (root va:Int):(bD zs root va).1=1∨(bD zs root va).1=2∨(bD zs root va).1=3:=by
 unfold bD;split
 ·simp
 ·exact oq zs va 2 _
theorem AE (va level:Int) (h0:0<=level) (h2:level<=2):0<=dP va level∧dP va level<zA level:=by
 unfold dP zA;rcases (show level=0∨level=1∨level=2 by omega) with rfl | rfl | rfl <;> simp <;> omega
theorem qL {pte level:Int} (h:aU pte level≠0):0<=level∧level<=2:=by
 unfold aU at h;split at h
 ·exact absurd rfl h
 ·omega
theorem kC (level va satp pte:Int) (p:Bool) (hk:aU pte level=qG p):bB (iL level va satp pte) p=true:=by
 have hl:=qL (by rw [hk];cases p <;> decide);have ht:=AE va level hl.1 hl.2;have ha:aN satp<=65535:=by unfold aN;omega
 simp [bB,iL,hl.1,hl.2,ht.2,ha,hk]
theorem yl (level va satp pte:Int) (p:Bool) (hk:aU pte level=qG p):0<=(iL level va satp pte).tag:=by
 have hl:=qL (by rw [hk];cases p <;> decide);exact (AE va level hl.1 hl.2).1
theorem ox (va satp pick:Int):∀(rs:List aP) (p:TlbM),aY p true=true->aY (db va satp pick rs p) true=true
 | [],p,h=>h
 | r::rs,p,h=>by
  rw [db];refine ox va satp pick rs _ ?_;split
  ·rename_i hk;exact kW p _ pick true h (kC _ _ _ _ true hk) (yl _ _ _ _ true hk)
  ·exact h
theorem oy (zs:List Int) (va:Int):∀(l:Nat) (n:Int),(bu zs va l n).1=1->aU (bu zs va l n).2.2.1 (bu zs va l n).2.1=2
 | 0,n=>by
  intro h;unfold bu at h |-;split at h
  ·simp at h
  ·rename_i h1;rw [if_neg h1];split at h
   ·simp at h
   ·rename_i h2;rw [if_neg h2];split at h
    ·rename_i h3;rw [if_pos h3];exact h3
    ·simp at h
 | l+1,n=>by
  intro h;unfold bu at h |-;split at h
  ·simp at h
  ·rename_i h1;rw [if_neg h1];split at h
   ·simp at h
   ·rename_i h2;rw [if_neg h2];split at h
    ·rename_i h3;rw [if_pos h3];exact h3
    ·rename_i h3;rw [if_neg h3];exact oy zs va l _ h
theorem zO (zs:List Int) (root va:Int) (h:(bD zs root va).1=1):aU (bD zs root va).2.2.1 (bD zs root va).2.1=2:=by
 unfold bD at h |-;split at h
 ·simp at h
 ·rename_i hc;rw [if_neg hc];exact oy zs va 2 _ h
theorem mh (kind:Int):eU kind≠0:=by
 unfold eU;split
 ·decide
 ·split <;> decide
theorem ir (kind:Int):bO kind≠0:=by
 unfold bO;split
 ·decide
 ·split <;> decide
theorem tf (zs:List Int) (mode:Int) (sum mxr:Bool) (satp:Int) (k:KM) (kind va pick:Int) (hk:cz k=true) (h1:0<=kind∧kind<=2) (h2:0<=mode∧mode<=2) (h3:0<=pick∧pick<=255):
 cz (bZ zs mode sum mxr satp k kind va pick).2=true:=by
 have hk':=hk;simp only [cz,Bool.and_eq_true] at hk';obtain ⟨⟨gi,gd⟩,gp⟩:=hk';unfold bZ;rw [if_neg (by rw [hk];simp;omega)];split
 ·exact hk
 ·split
  ·exact hk
  ·split
   ·exact hk
   ·simp only;have gp':=ox va satp pick (aX zs satp va (bX k.p va (aN satp))).2.2.2 k.p gp;split
    ·rename_i ha;have hkind:aU (aX zs satp va (bX k.p va (aN satp))).2.2.1 (aX zs satp va (bX k.p va (aN satp))).2.1=2:=by
      have hcode:(aX zs satp va (bX k.p va (aN satp))).1=1:=by
       have hc:(aX zs satp va (bX k.p va (aN satp))).1=1∨(aX zs satp va (bX k.p va (aN satp))).1=2∨(aX zs satp va (bX k.p va (aN satp))).1=3:=by
        unfold aX;split
        ·exact oq zs va _ _
        ·exact kP zs satp va
       unfold cK at ha;rcases hc with hc | hc | hc
       ·exact hc
       ·rw [if_pos hc] at ha;exact absurd ha (mh kind)
       ·rw [if_neg (by rw [hc];decide),if_pos hc] at ha;exact absurd ha (ir kind)
      unfold aX at hcode |-;split at hcode
      ·rename_i hu;rw [if_pos hu];exact oy zs va _ _ hcode
      ·rename_i hu;rw [if_neg hu];exact zO zs satp va hcode
     have hge:=kC _ va satp _ false hkind;have hgt:=yl _ va satp _ false hkind;unfold vU eY;split
     ·simp only [cz,Bool.and_eq_true];exact ⟨⟨kW _ _ pick false gi hge hgt,gd⟩,gp'⟩
     ·simp only [cz,Bool.and_eq_true];exact ⟨⟨gi,kW _ _ pick false gd hge hgt⟩,gp'⟩
    ·simp only [cz,Bool.and_eq_true];exact ⟨⟨gi,gd⟩,gp'⟩
theorem xZ {r:Int × Int × Int × List aP} {mode:Int} {sum mxr:Bool} {kind va:Int} (ha:(cK r mode sum mxr kind va).1=0):
 r.1≠2∧r.1≠3∧cG r.2.2.1 kind mode sum mxr=true∧(cK r mode sum mxr kind va).2=fH r.2.2.1 r.2.1 va:=by
 unfold cK at ha |-;by_cases h2:r.1=2
 ·rw [if_pos h2] at ha;exact absurd ha (mh kind)
 ·rw [if_neg h2] at ha |-;by_cases h3:r.1=3
  ·rw [if_pos h3] at ha;exact absurd ha (ir kind)
  ·rw [if_neg h3] at ha |-;unfold fT at ha |-;by_cases hg:cG r.2.2.1 kind mode sum mxr=true
   ·rw [if_pos hg];exact ⟨h2,h3,hg,rfl⟩
   ·rw [if_neg hg] at ha;exact absurd ha (mh kind)
abbrev ay:=Int × Int × Bool × aP
def eu (g:ay) (va asid:Int):Bool:=g.1 == dP va g.2.2.2.1 && (g.2.2.1 || g.2.1 == asid)
def fj (va satp:Int) (r:aP):ay:=(dP va r.1,aN satp,bJ r.2.2 32,r)
def qc (gs:List ay) (g:ay):List ay:=if g∈gs then gs else gs++[g]
def dJ (h:HartM) (kind va:Int):List aP->List ay->List ay
 | [],gs=>gs
 | r::rs,gs=>dJ h kind va rs (if (aU r.2.2 r.1 == 1 || cG r.2.2 kind h.mode h.sum h.mxr)=true then qc gs (fj va h.satp r) else gs)
def kS (gs:List ay) (h:HartM) (va:Int):Bool:=
 gs.all fun g=>!eu g va (aN h.satp) || decide (g.2.2.2∈(bD h.mem h.satp va).2.2.2)
def cV (gs:List ay) (h:HartM) (look:Int × Int):Bool × List ay:=
 if onM h.mode h.satp=false∨cR look.2=false then (true,gs)
 else if kS gs h look.2=true then (true,dJ h look.1 look.2 (bD h.mem h.satp look.2).2.2.2 gs) else (false,gs)
def aZ (h:HartM):List (Int × Int)->List ay->Bool × List ay
 | [],gs=>(true,gs)
 | l::ls,gs=>if (cV gs h l).1=true then aZ h ls (cV gs h l).2 else (false,(cV gs h l).2)
def dt (gs:List ay) (f:FenceM):List ay:=gs.filter fun g=>!eD f g.2.2.2.1 g.1 g.2.1 g.2.2.1
def dX (r:RunM) (gs:List ay):List ay:=if r.fenced=true then dt gs r.fence else gs
def hU:List Int->HartM->List ay->Nat->Bool × Nat
 | [],_,_,i=>(true,i)
 | p::ps,h,gs,i=>if (aZ h (bT true p h).looks gs).1=true then hU ps (bT true p h).h (dX (bT true p h) (aZ h (bT true p h).looks gs).2) (i+1) else (false,i)
def yf (g:ay) (e:EntM):Prop:=g.1=e.tag∧g.2.1=e.asid∧g.2.2.1=e.glob∧g.2.2.2.1=e.level∧g.2.2.2.2.2=e.pte
def CovT (t:TlbM) (gs:List ay):Prop:=∀e∈t.es,e.valid=true->∃g∈gs,yf g e
def CovK (k:KM) (gs:List ay):Prop:=CovT k.i gs∧CovT k.d gs∧CovT k.p gs
theorem CovT.mono {t:TlbM} {gs gs':List ay} (h:CovT t gs) (hs:∀g∈gs,g∈gs'):CovT t gs':=fun e he hv=>by
 obtain ⟨g,hg,hs'⟩:=h e he hv;exact ⟨g,hs g hg,hs'⟩
theorem CovK.mono {k:KM} {gs gs':List ay} (h:CovK k gs) (hs:∀g∈gs,g∈gs'):CovK k gs':=⟨h.1.mono hs,h.2.1.mono hs,h.2.2.mono hs⟩
theorem CovT.insert {t:TlbM} {gs:List ay} {e:EntM} {pick:Int} (h:CovT t gs) (he:∃g∈gs,yf g e):CovT (eE t e pick) gs:=by
 unfold eE;split
 ·intro x hx hv;rcases List.mem_or_eq_of_mem_set hx with hx | rfl
  ·exact h x hx hv
  ·exact he
 ·exact h
theorem sT (va satp:Int) (r:aP):yf (fj va satp r) (iL r.1 va satp r.2.2):=⟨rfl,rfl,rfl,rfl,rfl⟩
theorem CovT.ptrs {gs:List ay} {va satp pick:Int}:∀(rs:List aP) (p:TlbM),CovT p gs->(∀r∈rs,aU r.2.2 r.1=1->fj va satp r∈gs)->CovT (db va satp pick rs p) gs
 | [],p,h,_=>h
 | r::rs,p,h,hr=>by
  rw [db];refine CovT.ptrs rs _ ?_ (fun x hx=>hr x (List.mem_cons_of_mem _ hx));split
  ·rename_i hk;exact h.insert ⟨_,hr r (List.mem_cons_self ..) hk,sT va satp r⟩
  ·exact h
theorem CovT.flush {t:TlbM} {gs:List ay} {f:FenceM} (h:CovT t gs) (he:iY t=true):CovT (gW t f) (dt gs f):=by
 unfold gW;rw [if_pos he];intro x hx hv;simp only [List.mem_map] at hx;obtain ⟨y,hy,rfl⟩:=hx;unfold cS at hv |-;split at hv
 ·simp [cM] at hv
 ·rename_i hc;rw [if_neg hc];obtain ⟨g,hg,h1,h2,h3,h4,h5⟩:=h y hy hv;refine ⟨g,?_,h1,h2,h3,h4,h5⟩;simp only [dt,List.mem_filter,h1,h2,h3,h4,Bool.not_eq_true'];refine ⟨hg,?_⟩;simp only [hv,Bool.true_and,Bool.not_eq_true] at hc;exact hc
theorem CovT.evict {t:TlbM} {gs:List ay} {n:Int} (h:CovT t gs):CovT (bh t n) gs:=by
 intro x hx hv;rcases List.mem_or_eq_of_mem_set hx with hx | rfl
 ·exact h x hx hv
 ·simp [cM] at hv
theorem CovK.evict {k:KM} {gs:List ay} {plain:Bool} {pick:Int} (h:CovK k gs):CovK (eR plain pick k) gs:=by
 unfold eR;split
 ·exact ⟨h.1.evict,h.2.1.evict,h.2.2.evict⟩
 ·exact h
theorem ma (t:TlbM) (n:Int) (p:Bool) (hv:aY t p=true):aY (bh t n) p=true:=by
 have hs:=fS hv;refine th ?_ ?_
 ·simp only [kN,bh,decide_eq_true_eq,List.length_set];exact hs
 ·intro j x hx;simp only [bh,List.getElem?_set] at hx;split at hx
  ·split at hx
   ·cases hx;simp [dh,cM]
   ·cases hx
  ·exact iM hv j x hx
theorem sU (plain:Bool) (pick:Int) (k:KM) (h:cz k=true):cz (eR plain pick k)=true:=by
 unfold eR;split
 ·simp only [cz,Bool.and_eq_true] at h |-;exact ⟨⟨ma _ _ _ h.1.1,ma _ _ _ h.1.2⟩,ma _ _ _ h.2⟩
 ·exact h
theorem qJ (k:KM) (f:FenceM) (h:cz k=true):cz (iT k f)=true:=by
 simp only [cz,iT,Bool.and_eq_true] at h |-;exact ⟨⟨mj _ _ _ h.1.1,mj _ _ _ h.1.2⟩,mj _ _ _ h.2⟩
theorem CovK.flush {k:KM} {gs:List ay} {f:FenceM} (h:CovK k gs) (hk:cz k=true):CovK (iT k f) (dt gs f):=by
 simp only [cz,Bool.and_eq_true] at hk;exact ⟨h.1.flush (dS hk.1.1),h.2.1.flush (dS hk.1.2),h.2.2.flush (dS hk.2)⟩
theorem ur (va asid l:Int):∀(es:List EntM) (i k:Nat) (x:EntM),dU va asid l i es=some (k,x)->x∈es∧jJ va asid l x=true
 | e::r,i,k,x,h=>by
  rw [dU] at h;split at h
  ·rename_i hh;cases h;exact ⟨List.mem_cons_self ..,hh⟩
  ·have:=ur va asid l r (i+1) k x h;exact ⟨List.mem_cons_of_mem _ this.1,this.2⟩
theorem AA {t:TlbM} {va asid:Int} (h:(bX t va asid).1=true):∃x∈t.es,ko x va asid=true∧(bX t va asid).2.2.1=x.level∧(bX t va asid).2.2.2=x.pte:=by
 have one:∀(l:Int) (o:Option (Nat × EntM)) (z:Bool × Int × Int × Int),dU va asid l 0 t.es=o->iD l o=some z->∃x∈t.es,ko x va asid=true∧z.2.2.1=x.level∧z.2.2.2=x.pte:=by
  intro l o z ho hz;cases o with
  | none=>cases hz
  | some q=>
   obtain ⟨k,x⟩:=q;obtain ⟨hm,hh⟩:=ur va asid l t.es 0 k x ho;simp only [jJ,Bool.and_eq_true,beq_iff_eq] at hh;cases hz;exact ⟨x,hm,hh.2,hh.1.symm,rfl⟩
 unfold bX at h |-;split at h
 ·cases h
 ·rename_i he;rw [if_neg he];cases h0:iD 0 (dU va asid 0 0 t.es) with
  | some z=>exact one 0 _ z rfl h0
  | none=>
   cases h1:iD 1 (dU va asid 1 0 t.es) with
   | some z=>simp only [Option.none_or];exact one 1 _ z rfl h1
   | none=>
    cases h2:iD 2 (dU va asid 2 0 t.es) with
    | some z=>exact one 2 _ z rfl h2
    | none=>simp [h0,h1,h2] at h
theorem ow (zs:List Int) (va:Int):∀(l:Nat) (n:Int) (r:aP),r∈(bu zs va l n).2.2.2->
 (aU r.2.2 r.1=2->(bu zs va l n).1=1∧(bu zs va l n).2.1=r.1∧(bu zs va l n).2.2.1=r.2.2)∧
 (aU r.2.2 r.1=1->(bu zs va (r.1-1).toNat (dA r.2.2)).1=(bu zs va l n).1∧(bu zs va (r.1-1).toNat (dA r.2.2)).2.1=(bu zs va l n).2.1∧(bu zs va (r.1-1).toNat (dA r.2.2)).2.2.1=(bu zs va l n).2.2.1∧∀x∈(bu zs va (r.1-1).toNat (dA r.2.2)).2.2.2,x∈(bu zs va l n).2.2.2)
 | 0,n,r,h=>by
  unfold bu at h;split at h
  ·cases h
  ·rename_i h1;split at h
   ·cases h
   ·rename_i h2;split at h
    ·rename_i h3;simp only [List.mem_singleton] at h;subst h;refine ⟨fun _=>?_,fun hk=>?_⟩
     ·unfold bu;rw [if_neg h1,if_neg h2,if_pos h3];exact ⟨rfl,rfl,rfl⟩
     ·simp only at hk h3;omega
    ·cases h
 | l+1,n,r,h=>by
  have e:bu zs va (l+1) n=if dO zs.length (64*n+8*da va ((l+1:Nat):Int)) 8=false then (3,((l+1:Nat):Int),0,[])
   else if aU (rdV zs (64*n+8*da va ((l+1:Nat):Int)) 8) ((l+1:Nat):Int)=0 then (2,((l+1:Nat):Int),0,[])
   else if aU (rdV zs (64*n+8*da va ((l+1:Nat):Int)) 8) ((l+1:Nat):Int)=2 then (1,((l+1:Nat):Int),rdV zs (64*n+8*da va ((l+1:Nat):Int)) 8,[(((l+1:Nat):Int),64*n+8*da va ((l+1:Nat):Int),rdV zs (64*n+8*da va ((l+1:Nat):Int)) 8)])
   else ((bu zs va l (dA (rdV zs (64*n+8*da va ((l+1:Nat):Int)) 8))).1,(bu zs va l (dA (rdV zs (64*n+8*da va ((l+1:Nat):Int)) 8))).2.1,(bu zs va l (dA (rdV zs (64*n+8*da va ((l+1:Nat):Int)) 8))).2.2.1,
    (((l+1:Nat):Int),64*n+8*da va ((l+1:Nat):Int),rdV zs (64*n+8*da va ((l+1:Nat):Int)) 8)::(bu zs va l (dA (rdV zs (64*n+8*da va ((l+1:Nat):Int)) 8))).2.2.2):=by
   rw [bu]
  rw [e] at h |-;generalize rdV zs (64*n+8*da va ((l+1:Nat):Int)) 8=pte at h |-;generalize 64*n+8*da va ((l+1:Nat):Int)=ad at h |-;by_cases h1:dO zs.length ad 8=false
  ·rw [if_pos h1] at h;cases h
  ·rw [if_neg h1] at h |-;by_cases h2:aU pte ((l+1:Nat):Int)=0
   ·rw [if_pos h2] at h;cases h
   ·rw [if_neg h2] at h |-;by_cases h3:aU pte ((l+1:Nat):Int)=2
    ·rw [if_pos h3] at h |-;simp only [List.mem_singleton] at h;subst h;refine ⟨fun _=>⟨rfl,rfl,rfl⟩,fun hk=>?_⟩;simp only at hk;omega
    ·rw [if_neg h3] at h |-;rcases List.mem_cons.1 h with rfl | h
     ·refine ⟨fun hk=>absurd hk h3,fun _=>?_⟩;simp only;rw [show (((l+1:Nat):Int)-1).toNat=l by omega];exact ⟨rfl,rfl,rfl,fun x hx=>List.mem_cons_of_mem _ hx⟩
     ·obtain ⟨q1,q2⟩:=ow zs va l (dA pte) r h;refine ⟨q1,fun hk=>?_⟩;obtain ⟨a1,a2,a3,a4⟩:=q2 hk;exact ⟨a1,a2,a3,fun x hx=>List.mem_cons_of_mem _ (a4 x hx)⟩
theorem yg {gs:List ay} {g x:ay} (h:x∈gs∨x=g):x∈qc gs g:=by
 unfold qc;split
 ·rcases h with h | rfl
  ·exact h
  ·assumption
 ·rcases h with h | rfl
  ·exact List.mem_append_left _ h
  ·exact List.mem_append_right _ (List.mem_singleton.2 rfl)
theorem sV (h:HartM) (kind va:Int):∀(rs:List aP) (gs:List ay),∀g∈gs,g∈dJ h kind va rs gs
 | [],gs,g,hg=>hg
 | r::rs,gs,g,hg=>by
  rw [dJ];refine sV h kind va rs _ g ?_;split
  ·exact yg (.inl hg)
  ·exact hg
theorem yh (h:HartM) (kind va:Int):∀(rs:List aP) (gs:List ay) (r:aP),r∈rs->(aU r.2.2 r.1=1∨cG r.2.2 kind h.mode h.sum h.mxr=true)->fj va h.satp r∈dJ h kind va rs gs
 | x::rs,gs,r,hr,hk=>by
  rw [dJ];rcases List.mem_cons.1 hr with rfl | hr
  ·refine sV h kind va rs _ _ ?_;rw [if_pos (by rcases hk with hk | hk <;> simp [hk])];exact yg (.inr rfl)
  ·exact yh h kind va rs _ r hr hk
theorem zL (h:HartM) (k:KM) (gs:List ay) (kind va pick:Int) (hk:cz k=true) (hc:CovK k gs) (h1:0<=kind∧kind<=2) (h2:0<=h.mode∧h.mode<=2) (h3:0<=pick∧pick<=255) (hj:(cV gs h (kind,va)).1=true):
 (bZ h.mem h.mode h.sum h.mxr h.satp k kind va pick).1=fP h.mem h.mode h.sum h.mxr h.satp kind va∧CovK (bZ h.mem h.mode h.sum h.mxr h.satp k kind va pick).2 (cV gs h (kind,va)).2:=by
 have hb1:¬(cz k=false∨kind<0∨2<kind∨h.mode<0∨2<h.mode∨pick<0∨255<pick):=by rw [hk];simp;omega
 have hb2:¬(kind<0∨2<kind∨h.mode<0∨2<h.mode):=by omega
 have e1:fP h.mem h.mode h.sum h.mxr h.satp kind va=if onM h.mode h.satp=false then (0,va) else cK (bD h.mem h.satp va) h.mode h.sum h.mxr kind va:=by
  unfold fP;rw [if_neg hb2]
 rw [e1];unfold bZ;rw [if_neg hb1];by_cases hon:onM h.mode h.satp=false
 ·rw [if_pos hon,if_pos hon];refine ⟨rfl,?_⟩;unfold cV;rw [if_pos (.inl hon)];exact hc
 rw [if_neg hon,if_neg hon];by_cases hcan:cR va=false
 ·rw [if_pos hcan];refine ⟨?_,?_⟩
  ·unfold bD cK;rw [if_pos hcan,if_pos rfl]
  ·unfold cV;rw [if_pos (.inr hcan)];exact hc
 rw [if_neg hcan];have hno:¬(onM h.mode h.satp=false∨cR va=false):=by rintro (h | h);exact hon h;exact hcan h
 have hlk:kS gs h va=true:=by
  unfold cV at hj;rw [if_neg hno] at hj;split at hj
  ·assumption
  ·cases hj
 have ej:(cV gs h (kind,va)).2=dJ h kind va (bD h.mem h.satp va).2.2.2 gs:=by
  unfold cV;rw [if_neg hno,if_pos hlk]
 rw [ej];have hold:=sV h kind va (bD h.mem h.satp va).2.2.2 gs;have hnew:=yh h kind va (bD h.mem h.satp va).2.2.2 gs;have ew:bD h.mem h.satp va=bu h.mem va 2 (h.satp%17592186044416):=by unfold bD;rw [if_neg hcan]
 have hk':=hk;simp only [cz,Bool.and_eq_true] at hk';obtain ⟨⟨gi,gd⟩,gp⟩:=hk';have rec_of:∀(t:TlbM) (x:EntM),CovT t gs->x∈t.es->ko x va (aN h.satp)=true->∃ad,(x.level,ad,x.pte)∈(bD h.mem h.satp va).2.2.2:=by
  intro t x hct hx hf;simp only [ko,Bool.and_eq_true,beq_iff_eq,Bool.or_eq_true] at hf;obtain ⟨⟨hval,htag⟩,hga⟩:=hf;obtain ⟨g,hg,s1,s2,s3,s4,s5⟩:=hct x hx hval;have hall:=List.all_eq_true.1 hlk g hg;have hfit:eu g va (aN h.satp)=true:=by
   simp only [eu,Bool.and_eq_true,beq_iff_eq,Bool.or_eq_true];rw [s1,s2,s3,s4];exact ⟨htag,hga⟩
  rw [hfit] at hall;simp only [Bool.not_true,Bool.false_or,decide_eq_true_eq] at hall;refine ⟨g.2.2.2.2.1,?_⟩;rw [<-s4,<-s5];exact hall
 have gt:aY (eY k kind) false=true:=by unfold eY;split <;> assumption
 have ct:CovT (eY k kind) gs:=by unfold eY;split;exact hc.1;exact hc.2.1
 by_cases hh:(bX (eY k kind) va (aN h.satp)).1=true
 ·rw [if_pos hh];refine ⟨?_,hc.mono hold⟩;obtain ⟨x,hx,hf,e3,e4⟩:=AA hh;obtain ⟨ad,hr⟩:=rec_of _ x ct hx hf;have hkind:aU x.pte x.level=2:=by
   obtain ⟨j,hj'⟩:=List.getElem?_of_mem hx;have hp:=iM gt j x hj';have hval:x.valid=true:=by simp only [ko,Bool.and_eq_true] at hf;exact hf.1.1
   simp only [dh,Bool.or_eq_true,Bool.and_eq_true] at hp;rcases hp with hp | hp
   ·rw [hval] at hp;simp at hp
   ·exact qd hp.1
  rw [ew] at hr;obtain ⟨c1,c2,c3⟩:=(ow h.mem va 2 _ _ hr).1 hkind;rw [e3,e4,ew];unfold cK;rw [if_neg (by rw [c1];decide),if_neg (by rw [c1];decide),c2,c3]
 ·rw [if_neg hh];simp only;have hres:(aX h.mem h.satp va (bX k.p va (aN h.satp))).1=(bD h.mem h.satp va).1∧(aX h.mem h.satp va (bX k.p va (aN h.satp))).2.1=(bD h.mem h.satp va).2.1∧(aX h.mem h.satp va (bX k.p va (aN h.satp))).2.2.1=(bD h.mem h.satp va).2.2.1∧∀x∈(aX h.mem h.satp va (bX k.p va (aN h.satp))).2.2.2,x∈(bD h.mem h.satp va).2.2.2:=by
   unfold aX;by_cases hu:(bX k.p va (aN h.satp)).1=true
   ·rw [if_pos hu];obtain ⟨x,hx,hf,e3,e4⟩:=AA hu;obtain ⟨ad,hr⟩:=rec_of _ x hc.2.2 hx hf;have hkind:aU x.pte x.level=1:=by
     obtain ⟨j,hj'⟩:=List.getElem?_of_mem hx;have hp:=iM gp j x hj';have hval:x.valid=true:=by simp only [ko,Bool.and_eq_true] at hf;exact hf.1.1
     simp only [dh,Bool.or_eq_true,Bool.and_eq_true] at hp;rcases hp with hp | hp
     ·rw [hval] at hp;simp at hp
     ·exact qd hp.1
    rw [e3,e4];rw [ew] at hr |-;exact (ow h.mem va 2 _ _ hr).2 hkind
   ·rw [if_neg hu];exact ⟨rfl,rfl,rfl,fun x hx=>hx⟩
  have hans:cK (aX h.mem h.satp va (bX k.p va (aN h.satp))) h.mode h.sum h.mxr kind va=cK (bD h.mem h.satp va) h.mode h.sum h.mxr kind va:=by
   unfold cK;rw [hres.1,hres.2.1,hres.2.2.1]
  rw [hans];refine ⟨rfl,?_⟩;have cp:CovT (db va h.satp pick (aX h.mem h.satp va (bX k.p va (aN h.satp))).2.2.2 k.p) (dJ h kind va (bD h.mem h.satp va).2.2.2 gs):=
   CovT.ptrs _ _ (hc.2.2.mono hold) (fun r hr hkd=>hnew r (hres.2.2.2 r hr) (.inl hkd))
  split
  ·rename_i ha;obtain ⟨n2,n3,hg,_⟩:=xZ ha;have hcode:(bD h.mem h.satp va).1=1:=by rcases kP h.mem h.satp va with q | q | q <;> omega
   have hlast:∃ad,((bD h.mem h.satp va).2.1,ad,(bD h.mem h.satp va).2.2.1)∈(bD h.mem h.satp va).2.2.2:=by
    rw [ew] at hcode |-;clear ew hres hans cp hnew hold ej hlk hj rec_of ha n2 n3 hg;have:∀(l:Nat) (n:Int),(bu h.mem va l n).1=1->∃ad,((bu h.mem va l n).2.1,ad,(bu h.mem va l n).2.2.1)∈(bu h.mem va l n).2.2.2:=by
     intro l
     induction l with
     | zero=>
      intro n hn;unfold bu at hn |-;split at hn
      ·cases hn
      ·rename_i q1;rw [if_neg q1];split at hn
       ·cases hn
       ·rename_i q2;rw [if_neg q2];split at hn
        ·rename_i q3;rw [if_pos q3];exact ⟨_,List.mem_singleton.2 rfl⟩
        ·cases hn
     | succ l ih=>
      intro n hn;unfold bu at hn |-;split at hn
      ·cases hn
      ·rename_i q1;rw [if_neg q1];split at hn
       ·cases hn
       ·rename_i q2;rw [if_neg q2];split at hn
        ·rename_i q3;rw [if_pos q3];exact ⟨_,List.mem_singleton.2 rfl⟩
        ·rename_i q3;rw [if_neg q3];obtain ⟨ad,hm⟩:=ih _ hn;exact ⟨ad,List.mem_cons_of_mem _ hm⟩
    exact this 2 _ hcode
   obtain ⟨ad,hlast⟩:=hlast;have hgh:∃g∈dJ h kind va (bD h.mem h.satp va).2.2.2 gs,yf g (iL (aX h.mem h.satp va (bX k.p va (aN h.satp))).2.1 va h.satp (aX h.mem h.satp va (bX k.p va (aN h.satp))).2.2.1):=by
    rw [hres.2.1,hres.2.2.1];exact ⟨_,hnew _ hlast (.inr hg),sT va h.satp _⟩
   unfold vU;have ci:=(ct.mono hold).insert (pick:=pick) hgh;split
   ·exact ⟨ci,hc.2.1.mono hold,cp⟩
   ·exact ⟨hc.1.mono hold,ci,cp⟩
  ·exact ⟨hc.1.mono hold,hc.2.1.mono hold,cp⟩
end Go.Proofs.YthdgiakgepmabaaGreat
