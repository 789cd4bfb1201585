import Derived.Test.YthdgiakgepmabaaGreatPk02
namespace Go.Proofs.YthdgiakgepmabaaGreat
open Go.RowKit
set_option linter.unusedVariables false
set_option maxHeartbeats 6400000
set_option maxRecDepth 20000
section
attribute [local go_sem ↓] Go.wp_at_zero Go.wp_at_succ
def gn (va asid l:Int) (x:EntM):Bool:=x.level == l && gQ x va asid
def cw (va asid l:Int):Nat->List EntM->Option (Nat × EntM)
 | _,[]=>none
 | i,e::r=>if gn va asid l e=true then some (i,e) else cw va asid l (i+1) r
def fo (l:Int):Option (Nat × EntM)->Option (Bool × Int × Int × Int)
 | none=>none
 | some (i,e)=>some (true,(i:Int),l,e.pte)
def aX (t:TlbM) (va asid:Int):Bool × Int × Int × Int:=
 if fH t=false then (false,0,0,0)
 else ((fo 0 (cw va asid 0 0 t.es)).or ((fo 1 (cw va asid 1 0 t.es)).or (fo 2 (cw va asid 2 0 t.es)))).getD (false,0,0,0)
theorem mE (va asid l:Int):∀(es:List EntM) (i:Nat),(∀(j:Nat) x,es[j]?=some x->gn va asid l x=false)->cw va asid l i es=none
 | [],i,h=>rfl
 | e::r,i,h=>by
  rw [cw,if_neg (by rw [h 0 e rfl];simp)];exact mE va asid l r (i+1) (fun j x hx=>h (j+1) x (by simpa using hx))
theorem mF (va asid l:Int):∀(es:List EntM) (i k:Nat) (x:EntM),es[k]?=some x->gn va asid l x=true->(∀j y,j<k->es[j]?=some y->gn va asid l y=false)->cw va asid l i es=some (i+k,x)
 | e::r,i,0,x,hx,hh,h=>by
  simp at hx;subst hx;rw [cw,if_pos hh];rfl
 | e::r,i,k+1,x,hx,hh,h=>by
  rw [cw,if_neg (by rw [h 0 e (by omega) rfl];simp),mF va asid l r (i+1) k x (by simpa using hx) hh (fun j y hj hy=>h (j+1) y (by omega) (by simpa using hy))];congr 2;omega
theorem jc (t:TlbM) (p:Bool):∀(es:List EntM) (i:Nat),fj t p i es=true->∀j x,es[j]?=some x->bL t p (i+j) x=true
 | e::r,i,h,0,x,hx=>by
  simp at hx;subst hx;simp only [fj,Bool.and_eq_true] at h;exact h.1
 | e::r,i,h,j+1,x,hx=>by
  simp only [fj,Bool.and_eq_true] at h;have:=jc t p r (i+1) h.2 j x (by simpa using hx);rw [show i+(j+1)=i+1+j by omega];exact this
theorem lG {t:TlbM} {p:Bool} {i:Nat} {x:EntM} (h:bL t p i x=true) (hv:x.valid=true):0<=x.level∧x.level<=2:=by
 simp only [bL,Bool.or_eq_true,Bool.and_eq_true] at h;rcases h with h | h
 ·rw [hv] at h;simp at h
 ·have:=h.1;simp only [aH,Bool.and_eq_true,decide_eq_true_eq] at this;exact ⟨this.1.1.1.1.1.2,this.1.1.1.1.2⟩
theorem dv {t:TlbM} (h:fH t=true) (j:Nat) (x:EntM) (hx:t.es[j]?=some x) (hv:x.valid=true):0<=x.level∧x.level<=2:=by
 simp only [fH,aF,Bool.or_eq_true,Bool.and_eq_true] at h;rcases h with h | h
 ·exact lG (jc t true t.es 0 h.2 j x hx) hv
 ·exact lG (jc t false t.es 0 h.2 j x hx) hv
theorem yR (t:TlbM) (va asid:Int) (l k:Nat) (x:EntM) (he:fH t=true) (hl:l<=2) (hp:∀l':Nat,l'<l->cw va asid l' 0 t.es=none) (hf:cw va asid l 0 t.es=some (k,x)):
 aX t va asid=(true,(k:Int),(l:Int),x.pte):=by
 unfold aX;rw [if_neg (by rw [he];simp)];rcases (show l=0∨l=1∨l=2 by omega) with rfl | rfl | rfl
 ·have hf':cw va asid 0 0 t.es=some (k,x):=hf;rw [hf'];rfl
 ·have h0:cw va asid 0 0 t.es=none:=hp 0 (by omega);have hf':cw va asid 1 0 t.es=some (k,x):=hf;rw [h0,hf'];rfl
 ·have h0:cw va asid 0 0 t.es=none:=hp 0 (by omega);have h1:cw va asid 1 0 t.es=none:=hp 1 (by omega);have hf':cw va asid 2 0 t.es=some (k,x):=hf;rw [h0,h1,hf'];rfl
theorem vq (t:TlbM) (va asid:Int) (he:fH t=true) (hp:∀l':Nat,l'<3->cw va asid l' 0 t.es=none):aX t va asid=(false,0,0,0):=by
 have h0:cw va asid 0 0 t.es=none:=hp 0 (by omega);have h1:cw va asid 1 0 t.es=none:=hp 1 (by omega);have h2:cw va asid 2 0 t.es=none:=hp 2 (by omega);unfold aX;rw [if_neg (by rw [he];simp),h0,h1,h2];rfl
end
structure FenceM where
 hasVa:Bool
 va:Int
 hasAsid:Bool
 asid:Int
def ei (f:FenceM) (level tag asid:Int) (glob:Bool):Bool:=
 !(f.hasVa && (!bY f.va || tag != cG f.va level)) && (!f.hasAsid || (!glob && asid == f.asid))
def bA (f:FenceM) (e:EntM):EntM:=if (e.valid && ei f e.level e.tag e.asid e.glob)=true then bC else e
def iU (es:List EntM) (first:Nat):Nat->Nat->Option Nat
 | _,0=>none
 | w,left+1=>if (es[first+w]?.getD bC).valid=false then some w else iU es first (w+1) left
structure KM where
 i:TlbM
 d:TlbM
 p:TlbM
def cQ:TlbM:=⟨0,0,[]⟩
def k0M:KM:=⟨cQ,cQ,cQ⟩
def bj (k:KM):Bool:=aF k.i false && aF k.d false && aF k.p true
def fw (level va satp pte:Int):EntM:=⟨true,level,cG va level,aB satp,aZ pte 32,pte⟩
def eL (t:TlbM) (f:FenceM):TlbM:=if fH t=true then ⟨t.sets,t.ways,t.es.map (bA f)⟩ else t
def qO (t:TlbM) (e:EntM):Bool:=(aF t true && aH e true) || (aF t false && aH e false)
def em (t:TlbM) (e:EntM):Nat:=(e.tag%t.sets*t.ways).toNat
def jX (t:TlbM) (e:EntM) (pick:Int):Nat:=(iU t.es (em t e) 0 t.ways.toNat).getD (pick%t.ways).toNat
def cU (t:TlbM) (e:EntM) (pick:Int):TlbM:=
 if qO t e=true∧0<=pick∧pick<=255 then ⟨t.sets,t.ways,t.es.set (em t e+jX t e pick) e⟩ else t
def bF (va satp pick:Int):List aD->TlbM->TlbM
 | [],p=>p
 | r::rs,p=>bF va satp pick rs (if aV r.2.2 r.1=1 then cU p (fw r.1 va satp r.2.2) pick else p)
def aE (zs:List Int) (satp va:Int) (up:Bool × Int × Int × Int):Int × Int × Int × List aD:=
 if up.1=true then aN zs va (up.2.2.1-1).toNat (cx up.2.2.2) else aU zs satp va
def qP (k:KM) (kind:Int) (t:TlbM):KM:=if kind=0 then ⟨t,k.d,k.p⟩ else ⟨k.i,t,k.p⟩
def du (k:KM) (kind:Int):TlbM:=if kind=0 then k.i else k.d
def bc (zs:List Int) (mode:Int) (sum mxr:Bool) (satp:Int) (k:KM) (kind va pick:Int):(Int × Int) × KM:=
 if bj k=false∨kind<0∨2<kind∨mode<0∨2<mode∨pick<0∨255<pick then ((63,0),k0M)
 else if onM mode satp=false then ((0,va),k)
 else if bY va=false then ((dI kind,0),k)
 else if (aX (du k kind) va (aB satp)).1=true then (eT (aX (du k kind) va (aB satp)).2.2.2 (aX (du k kind) va (aB satp)).2.2.1 mode sum mxr kind va,k)
 else
  let r:=aE zs satp va (aX k.p va (aB satp))
  let a:=bw r mode sum mxr kind va
  let k':KM:=⟨k.i,k.d,bF va satp pick r.2.2.2 k.p⟩
  (a,if a.1=0 then qP k' kind (cU (du k kind) (fw r.2.1 va satp r.2.2.1) pick) else k')
theorem eM {t:TlbM} {p:Bool} (h:aF t p=true):(t.sets=1∨t.sets=2∨t.sets=4∨t.sets=8)∧1<=t.ways∧t.ways<=4∧(t.es.length:Int)=t.sets*t.ways:=by
 simp only [aF,Bool.and_eq_true,ik,decide_eq_true_eq] at h;exact h.1
theorem fx {t:TlbM} {p:Bool} (h:aF t p=true) (j:Nat) (x:EntM) (hx:t.es[j]?=some x):bL t p j x=true:=by
 simp only [aF,Bool.and_eq_true] at h;have:=jc t p t.es 0 h.2 j x hx;simpa using this
theorem oz {t:TlbM} {p:Bool} (h:ik t=true) (hp:∀(j:Nat) x,t.es[j]?=some x->bL t p j x=true):aF t p=true:=by
 simp only [aF,Bool.and_eq_true];exact ⟨h,eI t p t.es 0 (fun j x hx=>by simpa using hp j x hx)⟩
theorem co {t:TlbM} {p:Bool} (h:aF t p=true):fH t=true:=by
 cases p <;> simp [fH,h]
theorem ta (es:List EntM) (first:Nat):∀(left w r:Nat),iU es first w left=some r->w<=r∧r<w+left
 | 0,w,r,h=>by simp [iU] at h
 | left+1,w,r,h=>by
  rw [iU] at h;split at h
  ·cases h;omega
  ·have:=ta es first left (w+1) r h
   omega
theorem zI (t:TlbM) (e:EntM) (pick:Int) (hw:1<=t.ways) (hw':t.ways<=4):(jX t e pick:Int)<t.ways:=by
 unfold jX;cases h:iU t.es (em t e) 0 t.ways.toNat with
 | none=>
  simp only [Option.getD_none];have h1:0<=pick%t.ways:=Int.emod_nonneg _ (by omega);have h2:pick%t.ways<t.ways:=Int.emod_lt_of_pos _ (by omega);omega
 | some r=>
  simp only [Option.getD_some];have:=ta _ _ _ _ _ h;omega
theorem yn {t:TlbM} {e:EntM} (ht:0<=e.tag) (hs:t.sets=1∨t.sets=2∨t.sets=4∨t.sets=8) (hw:1<=t.ways):(em t e:Int)=e.tag%t.sets*t.ways:=by
 unfold em;have:0<=e.tag%t.sets:=Int.emod_nonneg _ (by omega);have:=Int.mul_nonneg this (by omega:0<=t.ways);omega
theorem zJ {t:TlbM} {p:Bool} {e:EntM} {pick:Int} (hv:aF t p=true) (ht:0<=e.tag):((em t e+jX t e pick:Nat):Int)/t.ways=e.tag%t.sets:=by
 obtain ⟨hs,hw,hw',hl⟩:=eM hv;have h1:=yn (e:=e) ht hs hw;have h2:=zI t e pick hw hw';rw [show ((em t e+jX t e pick:Nat):Int)=(jX t e pick:Int)+(e.tag%t.sets)*t.ways by omega,Int.add_mul_ediv_right _ _ (by omega)];rw [Int.ediv_eq_zero_of_lt (by omega) h2];omega
theorem lj {e:EntM} {p:Bool} (h:aH e p=true):aV e.pte e.level=lO p:=by
 simp only [aH,Bool.and_eq_true,beq_iff_eq] at h;exact h.2
theorem iw (t:TlbM) (e:EntM) (pick:Int) (p:Bool) (hv:aF t p=true) (hg:aH e p=true) (ht:0<=e.tag):aF (cU t e pick) p=true:=by
 unfold cU;split
 ·have hs:=eM hv;refine oz ?_ ?_
  ·simp only [ik,decide_eq_true_eq,List.length_set];exact hs
  ·intro j x hx;simp only [List.getElem?_set] at hx;split at hx
   ·rename_i hj;split at hx
    ·cases hx;subst hj;simp only [bL,Bool.or_eq_true,Bool.and_eq_true,beq_iff_eq];exact .inr ⟨hg,(zJ (pick:=pick) hv ht).symm⟩
    ·cases hx
   ·exact fx hv j x hx
 ·exact hv
theorem iW (t:TlbM) (f:FenceM) (p:Bool) (hv:aF t p=true):aF (eL t f) p=true:=by
 unfold eL;rw [if_pos (co hv)];have hs:=eM hv;refine oz ?_ ?_
 ·simp only [ik,decide_eq_true_eq,List.length_map];exact hs
 ·intro j x hx;simp only [List.getElem?_map,Option.map_eq_some_iff] at hx;obtain ⟨y,hy,rfl⟩:=hx;have:=fx hv j y hy;unfold bA;split
  ·simp [bL,bC]
  ·exact this
structure HartM where
 mem:List Int
 regs:List Int
 pc:Int
 mode:Int
 sum:Bool
 mxr:Bool
 satp:Int
 tvec:Int
 epc:Int
 emode:Int
 cause:Int
 tval:Int
 k:KM
structure RunM where
 h:HartM
 cause:Int
 tval:Int
 looks:List (Int × Int)
 fenced:Bool
 fence:FenceM
def ul:FenceM:=⟨false,0,false,0⟩
def cW (satp:Int):Bool:=satp/1152921504606846976%16 == 0 || satp/1152921504606846976%16 == 8
def df (n:Nat):Bool:=decide (n%64=0∧64<=n∧n<=4096)
def fl (h:HartM):Bool:=
 decide (h.regs.length=8) && (h.regs[0]?.getD 0 == 0) && decide (0<=h.mode∧h.mode<=2) && decide (0<=h.emode∧h.emode<=2) && cW h.satp && (h.tvec%4 == 0) && decide (0<=h.cause∧h.cause<=63)
def mr (h:HartM):Bool:=df h.mem.length && fl h && bj h.k
def aM (plain:Bool) (pick:Int) (h:HartM) (kind va:Int):(Int × Int) × KM:=
 if plain=true then (fB h.mem h.mode h.sum h.mxr h.satp kind va,h.k) else bc h.mem h.mode h.sum h.mxr h.satp h.k kind va pick
def withK (h:HartM) (k:KM):HartM:=⟨h.mem,h.regs,h.pc,h.mode,h.sum,h.mxr,h.satp,h.tvec,h.epc,h.emode,h.cause,h.tval,k⟩
def cL (h:HartM) (mem:List Int):HartM:=⟨mem,h.regs,h.pc,h.mode,h.sum,h.mxr,h.satp,h.tvec,h.epc,h.emode,h.cause,h.tval,h.k⟩
def fy (h:HartM) (regs:List Int):HartM:=⟨h.mem,regs,h.pc,h.mode,h.sum,h.mxr,h.satp,h.tvec,h.epc,h.emode,h.cause,h.tval,h.k⟩
def dy (h:HartM) (pc:Int):HartM:=⟨h.mem,h.regs,pc,h.mode,h.sum,h.mxr,h.satp,h.tvec,h.epc,h.emode,h.cause,h.tval,h.k⟩
def bG (r:RunM) (h:HartM):RunM:=⟨h,r.cause,r.tval,r.looks,r.fenced,r.fence⟩
def cf (r:RunM) (cause tval:Int):RunM:=⟨r.h,cause,tval,r.looks,r.fenced,r.fence⟩
def bb (plain:Bool) (pick:Int) (r:RunM) (kind va:Int):RunM:=
 ⟨withK r.h (aM plain pick r.h kind va).2,r.cause,r.tval,r.looks++[(kind,va)],r.fenced,r.fence⟩
abbrev be:=Int × Int × Int
def bo (va w:Int):List be:=
 if 64-va%64<w then [(va,64-va%64,0),((va+(64-va%64))%18446744073709551616,w-(64-va%64),0)] else [(va,w,0)]
def ab (plain:Bool) (pick kind:Int):RunM->List be->RunM × List be
 | r,[]=>(r,[])
 | r,p::ps=>
  if (aM plain pick r.h kind p.1).1.1=0 then
   ((ab plain pick kind (bb plain pick r kind p.1) ps).1,(p.1,p.2.1,(aM plain pick r.h kind p.1).1.2)::(ab plain pick kind (bb plain pick r kind p.1) ps).2)
  else (cf (bb plain pick r kind p.1) (aM plain pick r.h kind p.1).1.1 p.1,p::ps)
def eZ (mem:List Int):List be->Option Int
 | []=>none
 | p::ps=>if fG mem.length p.2.2 p.2.1=true then eZ mem ps else some p.1
def az (plain:Bool) (pick:Int) (r:RunM) (kind va w:Int):RunM × List be:=
 if (ab plain pick kind r (bo va w)).1.cause=0 then
  match eZ (ab plain pick kind r (bo va w)).1.h.mem (ab plain pick kind r (bo va w)).2 with
  | none=>ab plain pick kind r (bo va w)
  | some v=>(cf (ab plain pick kind r (bo va w)).1 (bq kind) v,(ab plain pick kind r (bo va w)).2)
 else ab plain pick kind r (bo va w)
def bH (mem:List Int):List be->List Int
 | []=>[]
 | p::ps=>(mem.drop p.2.2.toNat).take p.2.1.toNat++bH mem ps
def mf (mem:List Int) (ps:List be):Int:=num (bH mem ps)
def jy:List Int->List be->List Int->List Int
 | mem,[],_=>mem
 | mem,p::ps,b=>jy (put mem p.2.2.toNat (b.take p.2.1.toNat)) ps (b.drop p.2.1.toNat)
def ga (h:HartM) (a:Int):Int:=h.regs[a.toNat]?.getD 0
def cE (r:RunM) (a x:Int):RunM:=bG r (fy r.h (if 0<a then r.h.regs.set a.toNat x else r.h.regs))
def gY (s:Int):Int:=if 128<=s then s-256 else s
def jY (n:Int):Int:=2^n.toNat
def cz (op c mode:Int):Bool:=
 decide (9<=op∧op<=11∧mode=0) || decide ((op=12∨op=13)∧mode≠2) || decide (op=13∧2<c)
def iy (h:HartM) (a b:Int):FenceM:=⟨decide (a≠0),ga h a,decide (b≠0),ga h b%65536⟩
def fA (k:KM) (f:FenceM):KM:=⟨eL k.i f,eL k.d f,eL k.p f⟩
def eS (plain:Bool) (pick:Int) (r:RunM) (ea w a:Int):RunM:=
 if (az plain pick r 1 ea w).1.cause=0 then cE (az plain pick r 1 ea w).1 a (mf (az plain pick r 1 ea w).1.h.mem (az plain pick r 1 ea w).2) else (az plain pick r 1 ea w).1
def fm (t:RunM × List be) (b:List Int):RunM:=bG t.1 (cL t.1.h (jy t.1.h.mem t.2 b))
def dE (plain:Bool) (pick:Int) (r:RunM) (ea w x:Int):RunM:=
 if (az plain pick r 2 ea w).1.cause=0 then fm (az plain pick r 2 ea w) (br x w.toNat) else (az plain pick r 2 ea w).1
def iH (plain:Bool) (pick:Int) (r:RunM) (ea a x:Int):RunM:=
 if (az plain pick r 2 ea 8).1.cause=0 then cE (fm (az plain pick r 2 ea 8) (br ((mf (az plain pick r 2 ea 8).1.h.mem (az plain pick r 2 ea 8).2+x)%18446744073709551616) 8)) a (mf (az plain pick r 2 ea 8).1.h.mem (az plain pick r 2 ea 8).2) else (az plain pick r 2 ea 8).1
def eaM (h:HartM) (b s:Int):Int:=(ga h b+gY s)%18446744073709551616
def doM (plain:Bool) (pick:Int) (r:RunM) (pc op a b c s word:Int):RunM:=
 if cz op c r.h.mode=true then cf r 2 word
 else if op=1 then cE r a (gY s%18446744073709551616)
 else if op=2 then cE r a ((ga r.h b+ga r.h c)%18446744073709551616)
 else if op=3 then cE r a (eaM r.h b s)
 else if op=4 then cE r a (ga r.h b*jY (s%64)%18446744073709551616)
 else if op=5 then eS plain pick r (eaM r.h b s) (jY (c%4)) a
 else if op=6 then dE plain pick r (eaM r.h b s) (jY (c%4)) (ga r.h a)
 else if op=7 then iH plain pick r (eaM r.h b s) a (ga r.h c)
 else if op=8 then (if ga r.h a=ga r.h b then r else bG r (dy r.h ((pc+4*gY s)%18446744073709551616)))
 else if op=9 then (if cW (ga r.h a)=true then bG r ⟨r.h.mem,r.h.regs,r.h.pc,r.h.mode,r.h.sum,r.h.mxr,ga r.h a,r.h.tvec,r.h.epc,r.h.emode,r.h.cause,r.h.tval,r.h.k⟩ else r)
 else if op=10 then bG r ⟨r.h.mem,r.h.regs,r.h.pc,r.h.mode,aZ (ga r.h a) 1,aZ (ga r.h a) 2,r.h.satp,r.h.tvec,r.h.epc,r.h.emode,r.h.cause,r.h.tval,r.h.k⟩
 else if op=11 then ⟨if plain=true then r.h else withK r.h (fA r.h.k (iy r.h a b)),r.cause,r.tval,r.looks,true,iy r.h a b⟩
 else if op=12 then bG r ⟨r.h.mem,r.h.regs,(r.h.epc+4*gY s)%18446744073709551616,r.h.emode,r.h.sum,r.h.mxr,r.h.satp,r.h.tvec,r.h.epc,r.h.emode,r.h.cause,r.h.tval,r.h.k⟩
 else if op=13 then bG r ⟨r.h.mem,r.h.regs,r.h.pc,r.h.mode,r.h.sum,r.h.mxr,r.h.satp,r.h.tvec,ga r.h a,c,r.h.cause,r.h.tval,r.h.k⟩
 else if op=14 then cf r (8+r.h.mode) 0
 else cf r 2 word
def kC (plain:Bool) (pick:Int) (r:RunM) (op p q s word:Int):RunM:=
 doM plain pick (bG r (dy r.h ((r.h.pc+4)%18446744073709551616))) r.h.pc op (p%8) (p/8%8) (q%8) s word
def cu (t:TlbM) (n:Int):TlbM:=⟨t.sets,t.ways,t.es.set (n%t.es.length).toNat bC⟩
def dz (plain:Bool) (pick:Int) (k:KM):KM:=
 if 128<=pick∧plain=false then ⟨cu k.i (pick-128),cu k.d (pick-128),cu k.p (pick-128)⟩ else k
def fF (plain:Bool) (pick:Int) (h:HartM):Int:=rdV h.mem (aM plain pick h 0 h.pc).1.2 4
def gc (plain:Bool) (pick:Int) (r:RunM) (x:Int):RunM:=kC plain pick r (x%256) (x/256%256) (x/65536%256) (x/16777216) x
def bU (plain:Bool) (pick:Int) (r:RunM):RunM:=
 if r.h.pc%4=0 then
  if (aM plain pick r.h 0 r.h.pc).1.1=0 then
   if dL r.h.mem.length (aM plain pick r.h 0 r.h.pc).1.2 4=true then gc plain pick (bb plain pick r 0 r.h.pc) (fF plain pick r.h)
   else cf (bb plain pick r 0 r.h.pc) 1 r.h.pc
  else cf (bb plain pick r 0 r.h.pc) (aM plain pick r.h 0 r.h.pc).1.1 r.h.pc
 else cf r 20 r.h.pc
def bt (plain:Bool) (pick:Int) (h:HartM):RunM:=⟨withK h (dz plain pick h.k),0,0,[],false,ul⟩
def gg (h:HartM) (r:RunM):HartM:=⟨h.mem,h.regs,h.tvec,2,h.sum,h.mxr,h.satp,h.tvec,h.pc,h.mode,r.cause,r.tval,r.h.k⟩
def jz (h:HartM) (r:RunM):RunM:=if r.cause=0 then r else bG r (gg h r)
def aW (plain:Bool) (pick:Int) (h:HartM):RunM:=jz h (bU plain pick (bt plain pick h))
structure EvM where
 pc:Int
 mode:Int
 cause:Int
 tval:Int
def cY (plain:Bool):List Int->HartM->List EvM × HartM
 | [],h=>([],h)
 | p::ps,h=>(⟨h.pc,h.mode,(aW plain p h).cause,(aW plain p h).tval⟩::(cY plain ps (aW plain p h).h).1,(cY plain ps (aW plain p h).h).2)
def atM (b:List Int) (i:Nat):Int:=b[i]?.getD 0
def dC (b:List Int) (i:Nat):Int:=num ((List.range 8).map fun k=>atM b (i+k))
def ac (y:Int):TlbM:=⟨2^(y%4).toNat,1+y/4%4,List.replicate (2^(y%4).toNat*(1+y/4%4).toNat) bC⟩
def lq (b:List Int):Nat->Nat->Nat->List Int->List Int
 | 0,_,_,mem=>mem
 | m+1,i,a,mem=>lq b m (i+1) (a+1) (if a<mem.length then mem.set a (atM b i) else mem)
def pP (b:List Int) (i:Nat):Nat:=(atM b i+256*atM b (i+1)).toNat
def iX (b:List Int):Nat->Nat->List Int->List Int × Nat
 | 0,i,mem=>(mem,i)
 | n+1,i,mem=>iX b n (i+3+(atM b (i+2)).toNat) (lq b (atM b (i+2)).toNat (i+3) (pP b i) mem)
def bf (y:Int):Int:=if y%4=3 then 1 else y%4
def qQ (b:List Int):Nat:=min (atM b 5+256*atM b 6).toNat 20000
def oW (b:List Int):List Int × Nat:=iX b (atM b 87).toNat 88 (List.replicate (64*(1+(atM b 3%64).toNat)) 0)
def oA (b:List Int):List Int:=0::(List.range 7).map fun r=>dC b (31+8*r)
def aC (b:List Int):HartM:=
 ⟨(oW b).1,oA b,dC b 7,bf (atM b 4),atM b 4/4%2 == 1,atM b 4/8%2 == 1,if cW (dC b 23)=true then dC b 23 else 0,dC b 15/4*4,0,bf (atM b 4),0,0,⟨ac (atM b 0),ac (atM b 1),ac (atM b 2)⟩⟩
def bh (b:List Int):List Int:=(List.range (qQ b)).map fun k=>atM b ((oW b).2+k)
theorem jQ (zs:List Int) (va:Int):∀(l:Nat) (n:Int),(aN zs va l n).1=1∨(aN zs va l n).1=2∨(aN zs va l n).1=3
 | 0,n=>by
  unfold aN;split
  ·simp
  ·split
   ·simp
   ·split <;> simp
 | l+1,n=>by
  unfold aN;split
  ·simp
  ·split
   ·simp
   ·split
    ·simp
    ·exact jQ zs va l _
theorem io (zs:List Int) (root va:Int):(aU zs root va).1=1∨(aU zs root va).1=2∨(aU zs root va).1=3:=by
 unfold aU;split
 ·simp
 ·exact jQ zs va 2 _
theorem uV (va level:Int) (h0:0<=level) (h2:level<=2):0<=cG va level∧cG va level<tW level:=by
 unfold cG tW;rcases (show level=0∨level=1∨level=2 by omega) with rfl | rfl | rfl <;> simp <;> omega
theorem lS {pte level:Int} (h:aV pte level≠0):0<=level∧level<=2:=by
 unfold aV at h;split at h
 ·exact absurd rfl h
 ·omega
theorem gX (level va satp pte:Int) (p:Bool) (hk:aV pte level=lO p):aH (fw level va satp pte) p=true:=by
 have hl:=lS (by rw [hk];cases p <;> decide);have ht:=uV va level hl.1 hl.2;have ha:aB satp<=65535:=by unfold aB;omega
 simp [aH,fw,hl.1,hl.2,ht.2,ha,hk]
theorem sS (level va satp pte:Int) (p:Bool) (hk:aV pte level=lO p):0<=(fw level va satp pte).tag:=by
 have hl:=lS (by rw [hk];cases p <;> decide);exact (uV va level hl.1 hl.2).1
theorem jV (va satp pick:Int):∀(rs:List aD) (p:TlbM),aF p true=true->aF (bF va satp pick rs p) true=true
 | [],p,h=>h
 | r::rs,p,h=>by
  rw [bF];refine jV va satp pick rs _ ?_;split
  ·rename_i hk;exact iw p _ pick true h (gX _ _ _ _ true hk) (sS _ _ _ _ true hk)
  ·exact h
theorem jW (zs:List Int) (va:Int):∀(l:Nat) (n:Int),(aN zs va l n).1=1->aV (aN zs va l n).2.2.1 (aN zs va l n).2.1=2
 | 0,n=>by
  intro h;unfold aN at h |-;split at h
  ·simp at h
  ·rename_i h1;rw [if_neg h1];split at h
   ·simp at h
   ·rename_i h2;rw [if_neg h2];split at h
    ·rename_i h3;rw [if_pos h3];exact h3
    ·simp at h
 | l+1,n=>by
  intro h;unfold aN at h |-;split at h
  ·simp at h
  ·rename_i h1;rw [if_neg h1];split at h
   ·simp at h
   ·rename_i h2;rw [if_neg h2];split at h
    ·rename_i h3;rw [if_pos h3];exact h3
    ·rename_i h3;rw [if_neg h3];exact jW zs va l _ h
theorem ui (zs:List Int) (root va:Int) (h:(aU zs root va).1=1):aV (aU zs root va).2.2.1 (aU zs root va).2.1=2:=by
 unfold aU at h |-;split at h
 ·simp at h
 ·rename_i hc;rw [if_neg hc];exact jW zs va 2 _ h
theorem iV (kind:Int):dI kind≠0:=by
 unfold dI;split
 ·decide
 ·split <;> decide
theorem fX (kind:Int):bq kind≠0:=by
 unfold bq;split
 ·decide
 ·split <;> decide
theorem oy (zs:List Int) (mode:Int) (sum mxr:Bool) (satp:Int) (k:KM) (kind va pick:Int) (hk:bj k=true) (h1:0<=kind∧kind<=2) (h2:0<=mode∧mode<=2) (h3:0<=pick∧pick<=255):
 bj (bc zs mode sum mxr satp k kind va pick).2=true:=by
 have hk':=hk;simp only [bj,Bool.and_eq_true] at hk';obtain ⟨⟨gi,gd⟩,gp⟩:=hk';unfold bc;rw [if_neg (by rw [hk];simp;omega)];split
 ·exact hk
 ·split
  ·exact hk
  ·split
   ·exact hk
   ·simp only;have gp':=jV va satp pick (aE zs satp va (aX k.p va (aB satp))).2.2.2 k.p gp;split
    ·rename_i ha;have hkind:aV (aE zs satp va (aX k.p va (aB satp))).2.2.1 (aE zs satp va (aX k.p va (aB satp))).2.1=2:=by
      have hcode:(aE zs satp va (aX k.p va (aB satp))).1=1:=by
       have hc:(aE zs satp va (aX k.p va (aB satp))).1=1∨(aE zs satp va (aX k.p va (aB satp))).1=2∨(aE zs satp va (aX k.p va (aB satp))).1=3:=by
        unfold aE;split
        ·exact jQ zs va _ _
        ·exact io zs satp va
       unfold bw at ha;rcases hc with hc | hc | hc
       ·exact hc
       ·rw [if_pos hc] at ha;exact absurd ha (iV kind)
       ·rw [if_neg (by rw [hc];decide),if_pos hc] at ha;exact absurd ha (fX kind)
      unfold aE at hcode |-;split at hcode
      ·rename_i hu;rw [if_pos hu];exact jW zs va _ _ hcode
      ·rename_i hu;rw [if_neg hu];exact ui zs satp va hcode
     have hge:=gX _ va satp _ false hkind;have hgt:=sS _ va satp _ false hkind;unfold qP du;split
     ·simp only [bj,Bool.and_eq_true];exact ⟨⟨iw _ _ pick false gi hge hgt,gd⟩,gp'⟩
     ·simp only [bj,Bool.and_eq_true];exact ⟨⟨gi,iw _ _ pick false gd hge hgt⟩,gp'⟩
    ·simp only [bj,Bool.and_eq_true];exact ⟨⟨gi,gd⟩,gp'⟩
theorem sF {r:Int × Int × Int × List aD} {mode:Int} {sum mxr:Bool} {kind va:Int} (ha:(bw r mode sum mxr kind va).1=0):
 r.1≠2∧r.1≠3∧bZ r.2.2.1 kind mode sum mxr=true∧(bw r mode sum mxr kind va).2=fE r.2.2.1 r.2.1 va:=by
 unfold bw at ha |-;by_cases h2:r.1=2
 ·rw [if_pos h2] at ha;exact absurd ha (iV kind)
 ·rw [if_neg h2] at ha |-;by_cases h3:r.1=3
  ·rw [if_pos h3] at ha;exact absurd ha (fX kind)
  ·rw [if_neg h3] at ha |-;unfold eT at ha |-;by_cases hg:bZ r.2.2.1 kind mode sum mxr=true
   ·rw [if_pos hg];exact ⟨h2,h3,hg,rfl⟩
   ·rw [if_neg hg] at ha;exact absurd ha (iV kind)
abbrev aw:=Int × Int × Bool × aD
def dl (g:aw) (va asid:Int):Bool:=g.1 == cG va g.2.2.2.1 && (g.2.2.1 || g.2.1 == asid)
def fk (va satp:Int) (r:aD):aw:=(cG va r.1,aB satp,aZ r.2.2 32,r)
def yk (gs:List aw) (g:aw):List aw:=if g∈gs then gs else gs++[g]
def fC (h:HartM) (kind va:Int):List aD->List aw->List aw
 | [],gs=>gs
 | r::rs,gs=>fC h kind va rs (if (aV r.2.2 r.1 == 1 || bZ r.2.2 kind h.mode h.sum h.mxr)=true then yk gs (fk va h.satp r) else gs)
def jT (gs:List aw) (h:HartM) (va:Int):Bool:=
 gs.all fun g=>!dl g va (aB h.satp) || decide (g.2.2.2∈(aU h.mem h.satp va).2.2.2)
def cN (gs:List aw) (h:HartM) (look:Int × Int):Bool × List aw:=
 if onM h.mode h.satp=false∨bY look.2=false then (true,gs)
 else if jT gs h look.2=true then (true,fC h look.1 look.2 (aU h.mem h.satp look.2).2.2.2 gs) else (false,gs)
def aI (h:HartM):List (Int × Int)->List aw->Bool × List aw
 | [],gs=>(true,gs)
 | l::ls,gs=>if (cN gs h l).1=true then aI h ls (cN gs h l).2 else (false,(cN gs h l).2)
def gx (gs:List aw) (f:FenceM):List aw:=gs.filter fun g=>!ei f g.2.2.2.1 g.1 g.2.1 g.2.2.1
def cO (r:RunM) (gs:List aw):List aw:=if r.fenced=true then gx gs r.fence else gs
def go:List Int->HartM->List aw->Nat->Bool × Nat
 | [],_,_,i=>(true,i)
 | p::ps,h,gs,i=>if (aI h (aW true p h).looks gs).1=true then go ps (aW true p h).h (cO (aW true p h) (aI h (aW true p h).looks gs).2) (i+1) else (false,i)
def sL (g:aw) (e:EntM):Prop:=g.1=e.tag∧g.2.1=e.asid∧g.2.2.1=e.glob∧g.2.2.2.1=e.level∧g.2.2.2.2.2=e.pte
def CovT (t:TlbM) (gs:List aw):Prop:=∀e∈t.es,e.valid=true->∃g∈gs,sL g e
def CovK (k:KM) (gs:List aw):Prop:=CovT k.i gs∧CovT k.d gs∧CovT k.p gs
theorem CovT.mono {t:TlbM} {gs gs':List aw} (h:CovT t gs) (hs:∀g∈gs,g∈gs'):CovT t gs':=fun e he hv=>by
 obtain ⟨g,hg,hs'⟩:=h e he hv;exact ⟨g,hs g hg,hs'⟩
theorem CovK.mono {k:KM} {gs gs':List aw} (h:CovK k gs) (hs:∀g∈gs,g∈gs'):CovK k gs':=⟨h.1.mono hs,h.2.1.mono hs,h.2.2.mono hs⟩
theorem CovT.insert {t:TlbM} {gs:List aw} {e:EntM} {pick:Int} (h:CovT t gs) (he:∃g∈gs,sL g e):CovT (cU t e pick) gs:=by
 unfold cU;split
 ·intro x hx hv;rcases List.mem_or_eq_of_mem_set hx with hx | rfl
  ·exact h x hx hv
  ·exact he
 ·exact h
theorem nX (va satp:Int) (r:aD):sL (fk va satp r) (fw r.1 va satp r.2.2):=⟨rfl,rfl,rfl,rfl,rfl⟩
theorem CovT.ptrs {gs:List aw} {va satp pick:Int}:∀(rs:List aD) (p:TlbM),CovT p gs->(∀r∈rs,aV r.2.2 r.1=1->fk va satp r∈gs)->CovT (bF va satp pick rs p) gs
 | [],p,h,_=>h
 | r::rs,p,h,hr=>by
  rw [bF];refine CovT.ptrs rs _ ?_ (fun x hx=>hr x (List.mem_cons_of_mem _ hx));split
  ·rename_i hk;exact h.insert ⟨_,hr r (List.mem_cons_self ..) hk,nX va satp r⟩
  ·exact h
theorem CovT.flush {t:TlbM} {gs:List aw} {f:FenceM} (h:CovT t gs) (he:fH t=true):CovT (eL t f) (gx gs f):=by
 unfold eL;rw [if_pos he];intro x hx hv;simp only [List.mem_map] at hx;obtain ⟨y,hy,rfl⟩:=hx;unfold bA at hv |-;split at hv
 ·simp [bC] at hv
 ·rename_i hc;rw [if_neg hc];obtain ⟨g,hg,h1,h2,h3,h4,h5⟩:=h y hy hv;refine ⟨g,?_,h1,h2,h3,h4,h5⟩;simp only [gx,List.mem_filter,h1,h2,h3,h4,Bool.not_eq_true'];refine ⟨hg,?_⟩;simp only [hv,Bool.true_and,Bool.not_eq_true] at hc;exact hc
theorem CovT.evict {t:TlbM} {gs:List aw} {n:Int} (h:CovT t gs):CovT (cu t n) gs:=by
 intro x hx hv;rcases List.mem_or_eq_of_mem_set hx with hx | rfl
 ·exact h x hx hv
 ·simp [bC] at hv
theorem CovK.evict {k:KM} {gs:List aw} {plain:Bool} {pick:Int} (h:CovK k gs):CovK (dz plain pick k) gs:=by
 unfold dz;split
 ·exact ⟨h.1.evict,h.2.1.evict,h.2.2.evict⟩
 ·exact h
theorem iS (t:TlbM) (n:Int) (p:Bool) (hv:aF t p=true):aF (cu t n) p=true:=by
 have hs:=eM hv;refine oz ?_ ?_
 ·simp only [ik,cu,decide_eq_true_eq,List.length_set];exact hs
 ·intro j x hx;simp only [cu,List.getElem?_set] at hx;split at hx
  ·split at hx
   ·cases hx;simp [bL,bC]
   ·cases hx
  ·exact fx hv j x hx
theorem nY (plain:Bool) (pick:Int) (k:KM) (h:bj k=true):bj (dz plain pick k)=true:=by
 unfold dz;split
 ·simp only [bj,Bool.and_eq_true] at h |-;exact ⟨⟨iS _ _ _ h.1.1,iS _ _ _ h.1.2⟩,iS _ _ _ h.2⟩
 ·exact h
theorem lR (k:KM) (f:FenceM) (h:bj k=true):bj (fA k f)=true:=by
 simp only [bj,fA,Bool.and_eq_true] at h |-;exact ⟨⟨iW _ _ _ h.1.1,iW _ _ _ h.1.2⟩,iW _ _ _ h.2⟩
theorem CovK.flush {k:KM} {gs:List aw} {f:FenceM} (h:CovK k gs) (hk:bj k=true):CovK (fA k f) (gx gs f):=by
 simp only [bj,Bool.and_eq_true] at hk;exact ⟨h.1.flush (co hk.1.1),h.2.1.flush (co hk.1.2),h.2.2.flush (co hk.2)⟩
theorem pJ (va asid l:Int):∀(es:List EntM) (i k:Nat) (x:EntM),cw va asid l i es=some (k,x)->x∈es∧gn va asid l x=true
 | e::r,i,k,x,h=>by
  rw [cw] at h;split at h
  ·rename_i hh;cases h;exact ⟨List.mem_cons_self ..,hh⟩
  ·have:=pJ va asid l r (i+1) k x h;exact ⟨List.mem_cons_of_mem _ this.1,this.2⟩
theorem uT {t:TlbM} {va asid:Int} (h:(aX t va asid).1=true):∃x∈t.es,gQ x va asid=true∧(aX t va asid).2.2.1=x.level∧(aX t va asid).2.2.2=x.pte:=by
 have one:∀(l:Int) (o:Option (Nat × EntM)) (z:Bool × Int × Int × Int),cw va asid l 0 t.es=o->fo l o=some z->∃x∈t.es,gQ x va asid=true∧z.2.2.1=x.level∧z.2.2.2=x.pte:=by
  intro l o z ho hz;cases o with
  | none=>cases hz
  | some q=>
   obtain ⟨k,x⟩:=q;obtain ⟨hm,hh⟩:=pJ va asid l t.es 0 k x ho;simp only [gn,Bool.and_eq_true,beq_iff_eq] at hh;cases hz;exact ⟨x,hm,hh.2,hh.1.symm,rfl⟩
 unfold aX at h |-;split at h
 ·cases h
 ·rename_i he;rw [if_neg he];cases h0:fo 0 (cw va asid 0 0 t.es) with
  | some z=>exact one 0 _ z rfl h0
  | none=>
   cases h1:fo 1 (cw va asid 1 0 t.es) with
   | some z=>simp only [Option.none_or];exact one 1 _ z rfl h1
   | none=>
    cases h2:fo 2 (cw va asid 2 0 t.es) with
    | some z=>exact one 2 _ z rfl h2
    | none=>simp [h0,h1,h2] at h
theorem jU (zs:List Int) (va:Int):∀(l:Nat) (n:Int) (r:aD),r∈(aN zs va l n).2.2.2->
 (aV r.2.2 r.1=2->(aN zs va l n).1=1∧(aN zs va l n).2.1=r.1∧(aN zs va l n).2.2.1=r.2.2)∧
 (aV r.2.2 r.1=1->(aN zs va (r.1-1).toNat (cx r.2.2)).1=(aN zs va l n).1∧(aN zs va (r.1-1).toNat (cx r.2.2)).2.1=(aN zs va l n).2.1∧(aN zs va (r.1-1).toNat (cx r.2.2)).2.2.1=(aN zs va l n).2.2.1∧∀x∈(aN zs va (r.1-1).toNat (cx r.2.2)).2.2.2,x∈(aN zs va l n).2.2.2)
 | 0,n,r,h=>by
  unfold aN at h;split at h
  ·cases h
  ·rename_i h1;split at h
   ·cases h
   ·rename_i h2;split at h
    ·rename_i h3;simp only [List.mem_singleton] at h;subst h;refine ⟨fun _=>?_,fun hk=>?_⟩
     ·unfold aN;rw [if_neg h1,if_neg h2,if_pos h3];exact ⟨rfl,rfl,rfl⟩
     ·simp only at hk h3;omega
    ·cases h
 | l+1,n,r,h=>by
  have e:aN zs va (l+1) n=if dL zs.length (64*n+8*cg va ((l+1:Nat):Int)) 8=false then (3,((l+1:Nat):Int),0,[])
   else if aV (rdV zs (64*n+8*cg va ((l+1:Nat):Int)) 8) ((l+1:Nat):Int)=0 then (2,((l+1:Nat):Int),0,[])
   else if aV (rdV zs (64*n+8*cg va ((l+1:Nat):Int)) 8) ((l+1:Nat):Int)=2 then (1,((l+1:Nat):Int),rdV zs (64*n+8*cg va ((l+1:Nat):Int)) 8,[(((l+1:Nat):Int),64*n+8*cg va ((l+1:Nat):Int),rdV zs (64*n+8*cg va ((l+1:Nat):Int)) 8)])
   else ((aN zs va l (cx (rdV zs (64*n+8*cg va ((l+1:Nat):Int)) 8))).1,(aN zs va l (cx (rdV zs (64*n+8*cg va ((l+1:Nat):Int)) 8))).2.1,(aN zs va l (cx (rdV zs (64*n+8*cg va ((l+1:Nat):Int)) 8))).2.2.1,
    (((l+1:Nat):Int),64*n+8*cg va ((l+1:Nat):Int),rdV zs (64*n+8*cg va ((l+1:Nat):Int)) 8)::(aN zs va l (cx (rdV zs (64*n+8*cg va ((l+1:Nat):Int)) 8))).2.2.2):=by
   rw [aN]
  rw [e] at h |-;generalize rdV zs (64*n+8*cg va ((l+1:Nat):Int)) 8=pte at h |-;generalize 64*n+8*cg va ((l+1:Nat):Int)=ad at h |-;by_cases h1:dL zs.length ad 8=false
  ·rw [if_pos h1] at h;cases h
  ·rw [if_neg h1] at h |-;by_cases h2:aV pte ((l+1:Nat):Int)=0
   ·rw [if_pos h2] at h;cases h
   ·rw [if_neg h2] at h |-;by_cases h3:aV pte ((l+1:Nat):Int)=2
    ·rw [if_pos h3] at h |-;simp only [List.mem_singleton] at h;subst h;refine ⟨fun _=>⟨rfl,rfl,rfl⟩,fun hk=>?_⟩;simp only at hk;omega
    ·rw [if_neg h3] at h |-;rcases List.mem_cons.1 h with rfl | h
     ·refine ⟨fun hk=>absurd hk h3,fun _=>?_⟩;simp only;rw [show (((l+1:Nat):Int)-1).toNat=l by omega];exact ⟨rfl,rfl,rfl,fun x hx=>List.mem_cons_of_mem _ hx⟩
     ·obtain ⟨q1,q2⟩:=jU zs va l (cx pte) r h;refine ⟨q1,fun hk=>?_⟩;obtain ⟨a1,a2,a3,a4⟩:=q2 hk;exact ⟨a1,a2,a3,fun x hx=>List.mem_cons_of_mem _ (a4 x hx)⟩
theorem sM {gs:List aw} {g x:aw} (h:x∈gs∨x=g):x∈yk gs g:=by
 unfold yk;split
 ·rcases h with h | rfl
  ·exact h
  ·assumption
 ·rcases h with h | rfl
  ·exact List.mem_append_left _ h
  ·exact List.mem_append_right _ (List.mem_singleton.2 rfl)
theorem oh (h:HartM) (kind va:Int):∀(rs:List aD) (gs:List aw),∀g∈gs,g∈fC h kind va rs gs
 | [],gs,g,hg=>hg
 | r::rs,gs,g,hg=>by
  rw [fC];refine oh h kind va rs _ g ?_;split
  ·exact sM (.inl hg)
  ·exact hg
theorem sN (h:HartM) (kind va:Int):∀(rs:List aD) (gs:List aw) (r:aD),r∈rs->(aV r.2.2 r.1=1∨bZ r.2.2 kind h.mode h.sum h.mxr=true)->fk va h.satp r∈fC h kind va rs gs
 | x::rs,gs,r,hr,hk=>by
  rw [fC];rcases List.mem_cons.1 hr with rfl | hr
  ·refine oh h kind va rs _ _ ?_;rw [if_pos (by rcases hk with hk | hk <;> simp [hk])];exact sM (.inr rfl)
  ·exact sN h kind va rs _ r hr hk
theorem uf (h:HartM) (k:KM) (gs:List aw) (kind va pick:Int) (hk:bj k=true) (hc:CovK k gs) (h1:0<=kind∧kind<=2) (h2:0<=h.mode∧h.mode<=2) (h3:0<=pick∧pick<=255) (hj:(cN gs h (kind,va)).1=true):
 (bc h.mem h.mode h.sum h.mxr h.satp k kind va pick).1=fB h.mem h.mode h.sum h.mxr h.satp kind va∧CovK (bc h.mem h.mode h.sum h.mxr h.satp k kind va pick).2 (cN gs h (kind,va)).2:=by
 have hb1:¬(bj k=false∨kind<0∨2<kind∨h.mode<0∨2<h.mode∨pick<0∨255<pick):=by rw [hk];simp;omega
 have hb2:¬(kind<0∨2<kind∨h.mode<0∨2<h.mode):=by omega
 have e1:fB h.mem h.mode h.sum h.mxr h.satp kind va=if onM h.mode h.satp=false then (0,va) else bw (aU h.mem h.satp va) h.mode h.sum h.mxr kind va:=by
  unfold fB;rw [if_neg hb2]
 rw [e1];unfold bc;rw [if_neg hb1];by_cases hon:onM h.mode h.satp=false
 ·rw [if_pos hon,if_pos hon];refine ⟨rfl,?_⟩;unfold cN;rw [if_pos (.inl hon)];exact hc
 rw [if_neg hon,if_neg hon];by_cases hcan:bY va=false
 ·rw [if_pos hcan];refine ⟨?_,?_⟩
  ·unfold aU bw;rw [if_pos hcan,if_pos rfl]
  ·unfold cN;rw [if_pos (.inr hcan)];exact hc
 rw [if_neg hcan];have hno:¬(onM h.mode h.satp=false∨bY va=false):=by rintro (h | h);exact hon h;exact hcan h
 have hlk:jT gs h va=true:=by
  unfold cN at hj;rw [if_neg hno] at hj;split at hj
  ·assumption
  ·cases hj
 have ej:(cN gs h (kind,va)).2=fC h kind va (aU h.mem h.satp va).2.2.2 gs:=by
  unfold cN;rw [if_neg hno,if_pos hlk]
 rw [ej];have hold:=oh h kind va (aU h.mem h.satp va).2.2.2 gs;have hnew:=sN h kind va (aU h.mem h.satp va).2.2.2 gs;have ew:aU h.mem h.satp va=aN h.mem va 2 (h.satp%17592186044416):=by unfold aU;rw [if_neg hcan]
 have hk':=hk;simp only [bj,Bool.and_eq_true] at hk';obtain ⟨⟨gi,gd⟩,gp⟩:=hk';have rec_of:∀(t:TlbM) (x:EntM),CovT t gs->x∈t.es->gQ x va (aB h.satp)=true->∃ad,(x.level,ad,x.pte)∈(aU h.mem h.satp va).2.2.2:=by
  intro t x hct hx hf;simp only [gQ,Bool.and_eq_true,beq_iff_eq,Bool.or_eq_true] at hf;obtain ⟨⟨hval,htag⟩,hga⟩:=hf;obtain ⟨g,hg,s1,s2,s3,s4,s5⟩:=hct x hx hval;have hall:=List.all_eq_true.1 hlk g hg;have hfit:dl g va (aB h.satp)=true:=by
   simp only [dl,Bool.and_eq_true,beq_iff_eq,Bool.or_eq_true];rw [s1,s2,s3,s4];exact ⟨htag,hga⟩
  rw [hfit] at hall;simp only [Bool.not_true,Bool.false_or,decide_eq_true_eq] at hall;refine ⟨g.2.2.2.2.1,?_⟩;rw [<-s4,<-s5];exact hall
 have gt:aF (du k kind) false=true:=by unfold du;split <;> assumption
 have ct:CovT (du k kind) gs:=by unfold du;split;exact hc.1;exact hc.2.1
 by_cases hh:(aX (du k kind) va (aB h.satp)).1=true
 ·rw [if_pos hh];refine ⟨?_,hc.mono hold⟩;obtain ⟨x,hx,hf,e3,e4⟩:=uT hh;obtain ⟨ad,hr⟩:=rec_of _ x ct hx hf;have hkind:aV x.pte x.level=2:=by
   obtain ⟨j,hj'⟩:=List.getElem?_of_mem hx;have hp:=fx gt j x hj';have hval:x.valid=true:=by simp only [gQ,Bool.and_eq_true] at hf;exact hf.1.1
   simp only [bL,Bool.or_eq_true,Bool.and_eq_true] at hp;rcases hp with hp | hp
   ·rw [hval] at hp;simp at hp
   ·exact lj hp.1
  rw [ew] at hr;obtain ⟨c1,c2,c3⟩:=(jU h.mem va 2 _ _ hr).1 hkind;rw [e3,e4,ew];unfold bw;rw [if_neg (by rw [c1];decide),if_neg (by rw [c1];decide),c2,c3]
 ·rw [if_neg hh];simp only;have hres:(aE h.mem h.satp va (aX k.p va (aB h.satp))).1=(aU h.mem h.satp va).1∧(aE h.mem h.satp va (aX k.p va (aB h.satp))).2.1=(aU h.mem h.satp va).2.1∧(aE h.mem h.satp va (aX k.p va (aB h.satp))).2.2.1=(aU h.mem h.satp va).2.2.1∧∀x∈(aE h.mem h.satp va (aX k.p va (aB h.satp))).2.2.2,x∈(aU h.mem h.satp va).2.2.2:=by
   unfold aE;by_cases hu:(aX k.p va (aB h.satp)).1=true
   ·rw [if_pos hu];obtain ⟨x,hx,hf,e3,e4⟩:=uT hu;obtain ⟨ad,hr⟩:=rec_of _ x hc.2.2 hx hf;have hkind:aV x.pte x.level=1:=by
     obtain ⟨j,hj'⟩:=List.getElem?_of_mem hx;have hp:=fx gp j x hj';have hval:x.valid=true:=by simp only [gQ,Bool.and_eq_true] at hf;exact hf.1.1
     simp only [bL,Bool.or_eq_true,Bool.and_eq_true] at hp;rcases hp with hp | hp
     ·rw [hval] at hp;simp at hp
     ·exact lj hp.1
    rw [e3,e4];rw [ew] at hr |-;exact (jU h.mem va 2 _ _ hr).2 hkind
   ·rw [if_neg hu];exact ⟨rfl,rfl,rfl,fun x hx=>hx⟩
  have hans:bw (aE h.mem h.satp va (aX k.p va (aB h.satp))) h.mode h.sum h.mxr kind va=bw (aU h.mem h.satp va) h.mode h.sum h.mxr kind va:=by
   unfold bw;rw [hres.1,hres.2.1,hres.2.2.1]
  rw [hans];refine ⟨rfl,?_⟩;have cp:CovT (bF va h.satp pick (aE h.mem h.satp va (aX k.p va (aB h.satp))).2.2.2 k.p) (fC h kind va (aU h.mem h.satp va).2.2.2 gs):=
   CovT.ptrs _ _ (hc.2.2.mono hold) (fun r hr hkd=>hnew r (hres.2.2.2 r hr) (.inl hkd))
  split
  ·rename_i ha;obtain ⟨n2,n3,hg,_⟩:=sF ha;have hcode:(aU h.mem h.satp va).1=1:=by rcases io h.mem h.satp va with q | q | q <;> omega
   have hlast:∃ad,((aU h.mem h.satp va).2.1,ad,(aU h.mem h.satp va).2.2.1)∈(aU h.mem h.satp va).2.2.2:=by
    rw [ew] at hcode |-;clear ew hres hans cp hnew hold ej hlk hj rec_of ha n2 n3 hg;have:∀(l:Nat) (n:Int),(aN h.mem va l n).1=1->∃ad,((aN h.mem va l n).2.1,ad,(aN h.mem va l n).2.2.1)∈(aN h.mem va l n).2.2.2:=by
     intro l
     induction l with
     | zero=>
      intro n hn;unfold aN at hn |-;split at hn
      ·cases hn
      ·rename_i q1;rw [if_neg q1];split at hn
       ·cases hn
       ·rename_i q2;rw [if_neg q2];split at hn
        ·rename_i q3;rw [if_pos q3];exact ⟨_,List.mem_singleton.2 rfl⟩
        ·cases hn
     | succ l ih=>
      intro n hn;unfold aN at hn |-;split at hn
      ·cases hn
      ·rename_i q1;rw [if_neg q1];split at hn
       ·cases hn
       ·rename_i q2;rw [if_neg q2];split at hn
        ·rename_i q3;rw [if_pos q3];exact ⟨_,List.mem_singleton.2 rfl⟩
        ·rename_i q3;rw [if_neg q3];obtain ⟨ad,hm⟩:=ih _ hn;exact ⟨ad,List.mem_cons_of_mem _ hm⟩
    exact this 2 _ hcode
   obtain ⟨ad,hlast⟩:=hlast;have hgh:∃g∈fC h kind va (aU h.mem h.satp va).2.2.2 gs,sL g (fw (aE h.mem h.satp va (aX k.p va (aB h.satp))).2.1 va h.satp (aE h.mem h.satp va (aX k.p va (aB h.satp))).2.2.1):=by
    rw [hres.2.1,hres.2.2.1];exact ⟨_,hnew _ hlast (.inr hg),nX va h.satp _⟩
   unfold qP;have ci:=(ct.mono hold).insert (pick:=pick) hgh;split
   ·exact ⟨ci,hc.2.1.mono hold,cp⟩
   ·exact ⟨hc.1.mono hold,ci,cp⟩
  ·exact ⟨hc.1.mono hold,hc.2.1.mono hold,cp⟩
theorem sJ (a k:Nat):(a &&& 2^k != 0)=(a/2^k%2 == 1):=by
 have e:(a/2^k%2 == 1)=a.testBit k:=by rw [Nat.testBit_eq_decide_div_mod_eq];rfl
 rw [e];cases h:a.testBit k
 ·have:a &&& 2^k=0:=by
   apply Nat.eq_of_testBit_eq;intro i;rw [Nat.testBit_and,Nat.testBit_two_pow,Nat.zero_testBit];by_cases hi:k=i
   ·subst hi;simp [h]
   ·simp [hi]
  simp [this]
 ·have:a &&& 2^k≠0:=by
   intro h0;have:=congrArg (fun n=>n.testBit k) h0;simp [Nat.testBit_and,h] at this
  simpa using this
theorem iq (a m n:Nat):(a &&& (m ||| n) != 0)=((a &&& m != 0) || (a &&& n != 0)):=by
 rw [Nat.and_or_distrib_left];cases h:(a &&& m != 0) <;> cases h':(a &&& n != 0) <;> simp_all [Nat.or_eq_zero_iff]
def sK (x m:Int):Bool:=bits .and .u64 x m != 0
theorem eK (a m:Nat) (ha:a<18446744073709551616) (hm:m<18446744073709551616):sK a m=(a &&& m != 0):=by
 rw [sK,u64_and_nat a m ha hm];cases h:(a &&& m != 0)
 ·simp at h;simp [h]
 ·simp at h;simp;omega
theorem bX (k:Nat) (x p:Int) (hp:p=2^k) (hk:p<18446744073709551616) (h0:0<=x) (h1:x<=18446744073709551615):sK x p=aZ x p:=by
 obtain ⟨a,rfl⟩:=Int.eq_ofNat_of_zero_le h0;have e:p=((2^k:Nat):Int):=by rw [hp];push_cast;rfl
 rw [e] at hk |-;rw [eK a (2^k) (by omega) (by omega),sJ,aZ];rw [show ((a:Int)/((2^k:Nat):Int)%2)=((a/2^k%2:Nat):Int) by omega];generalize a/2^k%2=t;rw [Bool.eq_iff_iff];simp only [beq_iff_eq];omega
theorem yh (x:Int) (h0:0<=x) (h1:x<=18446744073709551615):sK x 14=(aZ x 2 || aZ x 4 || aZ x 8):=by
 rw [<-bX 1 x 2 rfl (by omega) h0 h1,<-bX 2 x 4 rfl (by omega) h0 h1,<-bX 3 x 8 rfl (by omega) h0 h1];obtain ⟨a,rfl⟩:=Int.eq_ofNat_of_zero_le h0;rw [show (14:Int)=((14:Nat):Int) from rfl,show (2:Int)=((2:Nat):Int) from rfl,show (4:Int)=((4:Nat):Int) from rfl,show (8:Int)=((8:Nat):Int) from rfl];rw [eK a 14 (by omega) (by omega),eK a 2 (by omega) (by omega),eK a 4 (by omega) (by omega),eK a 8 (by omega) (by omega)];rw [<-iq,<-iq];rfl
theorem yi (x:Int) (h0:0<=x) (h1:x<=18446744073709551615):sK x 208=(aZ x 16 || aZ x 64 || aZ x 128):=by
 rw [<-bX 4 x 16 rfl (by omega) h0 h1,<-bX 6 x 64 rfl (by omega) h0 h1,<-bX 7 x 128 rfl (by omega) h0 h1];obtain ⟨a,rfl⟩:=Int.eq_ofNat_of_zero_le h0;rw [show (208:Int)=((208:Nat):Int) from rfl,show (16:Int)=((16:Nat):Int) from rfl,show (64:Int)=((64:Nat):Int) from rfl,show (128:Int)=((128:Nat):Int) from rfl];rw [eK a 208 (by omega) (by omega),eK a 16 (by omega) (by omega),eK a 64 (by omega) (by omega),eK a 128 (by omega) (by omega)];rw [<-iq,<-iq];rfl
theorem pI (k:Nat) (x m P:Int) (hP:P=2^k) (hm:m=P-1) (hk:m<18446744073709551616) (h0:0<=x) (h1:x<=18446744073709551615):bits .andNot .u64 x m=x/P*P:=by
 obtain ⟨a,rfl⟩:=Int.eq_ofNat_of_zero_le h0;have hp:1<=(2^k:Nat):=Nat.one_le_two_pow;have eP:P=((2^k:Nat):Int):=by rw [hP];push_cast;rfl
 have e:m=((2^k-1:Nat):Int):=by rw [hm,eP];omega
 rw [e] at hk |-;rw [eP,u64_andNot_nat a (2^k-1) (by omega) (by omega)];rw [show ((a:Int)/((2^k:Nat):Int)*((2^k:Nat):Int))=((a/2^k*2^k:Nat):Int) by push_cast;rfl];congr 1;apply Nat.eq_of_testBit_eq;intro i;have hk64:k<=64:=by
  rcases Nat.lt_or_ge 64 k with h | h
  ·have:2^65<=2^k:=Nat.pow_le_pow_right (by omega) h;omega
  ·exact h
 rw [Nat.testBit_and,Nat.testBit_mul_two_pow,Nat.testBit_div_two_pow];by_cases hi:k<=i
 ·by_cases hi':i<64
  ·have:(18446744073709551615-(2^k-1)).testBit i=true:=by
    rw [show 18446744073709551615-(2^k-1)=2^64-(2^k-1+1) by omega,Nat.testBit_two_pow_sub_succ (by omega),Nat.testBit_two_pow_sub_one];simp;omega
   rw [this];simp [hi,show i-k+k=i by omega]
  ·have:a.testBit i=false:=Nat.testBit_lt_two_pow (ltl (by omega:a<2^64) (Nat.pow_le_pow_right (by omega) (by omega)));simp [this,show i-k+k=i by omega]
 ·have:(18446744073709551615-(2^k-1)).testBit i=false:=by
   rw [show 18446744073709551615-(2^k-1)=2^64-(2^k-1+1) by omega,Nat.testBit_two_pow_sub_succ (by omega),Nat.testBit_two_pow_sub_one];simp;omega
  simp [this,hi]
theorem jR (k:Nat) (x y m P:Int) (hP:P=2^k) (hm:m=P-1) (hk:m<18446744073709551616) (h0:0<=x) (h1:x<=18446744073709551615) (g0:0<=y) (g1:y<=18446744073709551615):
 bits .or .u64 (bits .andNot .u64 x m) (bits .and .u64 y m)=x/P*P+y%P:=by
 have hp:1<=P:=by rw [hP];exact Int.pow_pos (by omega:(0:Int)<2)
 rw [pI k x m P hP hm hk h0 h1,db k y m (by rw [hm,hP]) hk g0 g1,<-hP];have a1:0<=y%P:=Int.emod_nonneg _ (by omega);have a2:y%P<P:=Int.emod_lt_of_pos _ (by omega);have a3:0<=x/P:=Int.ediv_nonneg h0 (by omega);have a4:x/P*P<=x:=Int.ediv_mul_le _ (by omega);have a5:0<=x/P*P:=Int.mul_nonneg a3 (by omega);have hc:bits .or .u64 (x/P*P) (y%P)=bits .or .u64 (y%P) (x/P*P):=by
  rw [u64_or _ _ a5 (by omega) a1 (by omega),u64_or _ _ a1 (by omega) a5 (by omega),Nat.or_comm]
 rw [hc,dm k P (y%P) (x/P) hP a1 a2 a3 (by omega) (by omega)];omega
end Go.Proofs.YthdgiakgepmabaaGreat
