import Derived.Test.YtkenjknmfhoppaaGreatPk04
namespace Go.Proofs.YtkenjknmfhoppaaGreat
open Go.RowKit
set_option linter.unusedVariables false
set_option maxHeartbeats 6400000
set_option maxRecDepth 20000
theorem Ka (a:Option Addr) (n cap:Nat) (sets ways:Int) (p:Bool) (w:World) (hl:n<=1048576) (hs: -9223372036854775808<=sets∧sets<=9223372036854775807) (hw: -9223372036854775808<=ways∧ways<=9223372036854775807)
 (h:¬((sets=1∨sets=2∨sets=4∨sets=8)∧1<=ways∧ways<=4∧(n:Int)=sets*ways)):
 Calls Tryz.prog 123 #[.agg #[VI sets,VI ways,.slice a n cap],.bool p] w fun e w'=>e=.returned (.bool false)∧Bw w w':=by
 by_cases h1:sets=1∨sets=2∨sets=4∨sets=8
 ·by_cases h2:ways<1
  ·rcases h1 with rfl | rfl | rfl | rfl;all_goals
    go_enter Tryz.func123,Tryz.ntmps123;go_wp2;go_ret;exact ⟨rfl,(brf).alloc nle _⟩
  by_cases h3:4<ways
  ·rcases h1 with rfl | rfl | rfl | rfl;all_goals
    go_enter Tryz.func123,Tryz.ntmps123;go_wp2;go_ret;exact ⟨rfl,(brf).alloc nle _⟩
  rcases h1 with rfl | rfl | rfl | rfl
  ·have h4:((n:Int) != ways)=true:=by rw [bne_iff_ne];omega
   clear h;go_enter Tryz.func123,Tryz.ntmps123;go_wp2;go_ret;exact ⟨rfl,(brf).alloc nle _⟩
  ·have h4:((n:Int) != 2*ways)=true:=by rw [bne_iff_ne];omega
   clear h;go_enter Tryz.func123,Tryz.ntmps123;go_wp2;go_ret;exact ⟨rfl,(brf).alloc nle _⟩
  ·have h4:((n:Int) != 4*ways)=true:=by rw [bne_iff_ne];omega
   clear h;go_enter Tryz.func123,Tryz.ntmps123;go_wp2;go_ret;exact ⟨rfl,(brf).alloc nle _⟩
  ·have h4:((n:Int) != 8*ways)=true:=by rw [bne_iff_ne];omega
   clear h;go_enter Tryz.func123,Tryz.ntmps123;go_wp2;go_ret;exact ⟨rfl,(brf).alloc nle _⟩
 ·have q1:(sets != 1)=true:=by rw [bne_iff_ne];omega
  have q2:(sets != 2)=true:=by rw [bne_iff_ne];omega
  have q4:(sets != 4)=true:=by rw [bne_iff_ne];omega
  have q8:(sets != 8)=true:=by rw [bne_iff_ne];omega
  clear h h1;go_enter Tryz.func123,Tryz.ntmps123;go_wp2;go_ret;exact ⟨rfl,(brf).alloc nle _⟩
theorem JQ (v:Value) (t:TlbM) (p:Bool) (w:World) (h:TlbAt w v t):
 Calls Tryz.prog 123 #[v,.bool p] w fun e w'=>e=.returned (.bool (aY t p))∧Bw w w':=by
 obtain ⟨a,cap,rfl,hr,he,hs,hw,hl,hlc,hcm,hnil,hsp⟩:=h;obtain ⟨sets,ways,es⟩:=t;simp only at hr he hs hw hl hlc hnil |-;by_cases hsh:(sets=1∨sets=2∨sets=4∨sets=8)∧1<=ways∧ways<=4∧(es.length:Int)=sets*ways
 ·have hv:aY ⟨sets,ways,es⟩ p=iQ ⟨sets,ways,es⟩ p 0 es:=by simp only [aY,lE];rw [decide_eq_true hsh,Bool.true_and]
  rw [hv];obtain ⟨h1,h2,h3,h4⟩:=hsh;obtain ⟨b,off,rfl⟩:∃b off,a=some (AD b off):=by
   rcases hr.2 with h0 | ⟨b,off,rfl,_,_⟩
   ·rw [h0] at h4;rcases h1 with rfl | rfl | rfl | rfl <;> simp at h4 <;> omega
   ·exact ⟨b,off,rfl⟩
  exact Ke sets h1 b off cap ways es es.length p w hr he hl rfl h2 h3 h4
 ·have hv:aY ⟨sets,ways,es⟩ p=false:=by simp only [aY,lE];rw [decide_eq_false hsh,Bool.false_and]
  rw [hv];exact Ka a es.length cap sets ways p w hl hs hw hsh
section
attribute [local go_sem ↓] Go.wp_at_zero Go.wp_at_succ
theorem TlbAt.keep {w w':World} {v:Value} {t:TlbM} (h:TlbAt w v t) (hb:Bw w w'):TlbAt w' v t:=by
 obtain ⟨a,cap,rfl,hr,r⟩:=h;exact ⟨a,cap,rfl,hr.keep hb,r⟩
def jr (t:TlbM):Bool:=aY t true || aY t false
def kN (x:EntM) (va asid:Int):Bool:=x.valid && (x.tag == eg va x.level) && (x.glob || x.asid == asid)
end
section
attribute [local go_sem ↓] Go.wp_at_zero Go.wp_at_succ
def jU (va asid l:Int) (x:EntM):Bool:=x.level == l && kN x va asid
def er (va asid l:Int):Nat->List EntM->Option (Nat × EntM)
 | _,[]=>none
 | i,e::r=>if jU va asid l e=true then some (i,e) else er va asid l (i+1) r
def iS (l:Int):Option (Nat × EntM)->Option (Bool × Int × Int × Int)
 | none=>none
 | some (i,e)=>some (true,(i:Int),l,e.pte)
def cB (t:TlbM) (va asid:Int):Bool × Int × Int × Int:=
 if jr t=false then (false,0,0,0)
 else ((iS 0 (er va asid 0 0 t.es)).or ((iS 1 (er va asid 1 0 t.es)).or (iS 2 (er va asid 2 0 t.es)))).getD (false,0,0,0)
theorem sy (va asid l:Int):∀(es:List EntM) (i:Nat),(∀(j:Nat) x,es[j]?=some x->jU va asid l x=false)->er va asid l i es=none
 | [],i,h=>rfl
 | e::r,i,h=>by
  rw [er,if_neg (by rw [h 0 e rfl];simp)];exact sy va asid l r (i+1) (fun j x hx=>h (j+1) x (by simpa using hx))
theorem sA (va asid l:Int):∀(es:List EntM) (i k:Nat) (x:EntM),es[k]?=some x->jU va asid l x=true->(∀j y,j<k->es[j]?=some y->jU va asid l y=false)->er va asid l i es=some (i+k,x)
 | e::r,i,0,x,hx,hh,h=>by
  simp at hx;subst hx;rw [er,if_pos hh];rfl
 | e::r,i,k+1,x,hx,hh,h=>by
  rw [er,if_neg (by rw [h 0 e (by omega) rfl];simp),sA va asid l r (i+1) k x (by simpa using hx) hh (fun j y hj hy=>h (j+1) y (by omega) (by simpa using hy))];congr 2;omega
theorem mY (t:TlbM) (p:Bool):∀(es:List EntM) (i:Nat),iQ t p i es=true->∀j x,es[j]?=some x->dy t p (i+j) x=true
 | e::r,i,h,0,x,hx=>by
  simp at hx;subst hx;simp only [iQ,Bool.and_eq_true] at h;exact h.1
 | e::r,i,h,j+1,x,hx=>by
  simp only [iQ,Bool.and_eq_true] at h;have:=mY t p r (i+1) h.2 j x (by simpa using hx);rw [show i+(j+1)=i+1+j by omega];exact this
theorem rl {t:TlbM} {p:Bool} {i:Nat} {x:EntM} (h:dy t p i x=true) (hv:x.valid=true):0<=x.level∧x.level<=2:=by
 simp only [dy,Bool.or_eq_true,Bool.and_eq_true] at h;rcases h with h | h
 ·rw [hv] at h;simp at h
 ·have:=h.1;simp only [bK,Bool.and_eq_true,decide_eq_true_eq] at this;exact ⟨this.1.1.1.1.1.2,this.1.1.1.1.2⟩
theorem fu {t:TlbM} (h:jr t=true) (j:Nat) (x:EntM) (hx:t.es[j]?=some x) (hv:x.valid=true):0<=x.level∧x.level<=2:=by
 simp only [jr,aY,Bool.or_eq_true,Bool.and_eq_true] at h;rcases h with h | h
 ·exact rl (mY t true t.es 0 h.2 j x hx) hv
 ·exact rl (mY t false t.es 0 h.2 j x hx) hv
theorem Gn (t:TlbM) (va asid:Int) (l k:Nat) (x:EntM) (he:jr t=true) (hl:l<=2) (hp:∀l':Nat,l'<l->er va asid l' 0 t.es=none) (hf:er va asid l 0 t.es=some (k,x)):
 cB t va asid=(true,(k:Int),(l:Int),x.pte):=by
 unfold cB;rw [if_neg (by rw [he];simp)];rcases (show l=0∨l=1∨l=2 by omega) with rfl | rfl | rfl
 ·have hf':er va asid 0 0 t.es=some (k,x):=hf;rw [hf'];rfl
 ·have h0:er va asid 0 0 t.es=none:=hp 0 (by omega);have hf':er va asid 1 0 t.es=some (k,x):=hf;rw [h0,hf'];rfl
 ·have h0:er va asid 0 0 t.es=none:=hp 0 (by omega);have h1:er va asid 1 0 t.es=none:=hp 1 (by omega);have hf':er va asid 2 0 t.es=some (k,x):=hf;rw [h0,h1,hf'];rfl
theorem Cv (t:TlbM) (va asid:Int) (he:jr t=true) (hp:∀l':Nat,l'<3->er va asid l' 0 t.es=none):cB t va asid=(false,0,0,0):=by
 have h0:er va asid 0 0 t.es=none:=hp 0 (by omega);have h1:er va asid 1 0 t.es=none:=hp 1 (by omega);have h2:er va asid 2 0 t.es=none:=hp 2 (by omega);unfold cB;rw [if_neg (by rw [he];simp),h0,h1,h2];rfl
end
structure FenceM where
 hasVa:Bool
 va:Int
 hasAsid:Bool
 asid:Int
def eS (f:FenceM) (level tag asid:Int) (glob:Bool):Bool:=
 !(f.hasVa && (!de f.va || tag != eg f.va level)) && (!f.hasAsid || (!glob && asid == f.asid))
def df (f:FenceM) (e:EntM):EntM:=if (e.valid && eS f e.level e.tag e.asid e.glob)=true then cZ else e
def mO (es:List EntM) (first:Nat):Nat->Nat->Option Nat
 | _,0=>none
 | w,left+1=>if (es[first+w]?.getD cZ).valid=false then some w else mO es first (w+1) left
structure KM where
 i:TlbM
 d:TlbM
 p:TlbM
def eO:TlbM:=⟨0,0,[]⟩
def k0M:KM:=⟨eO,eO,eO⟩
def cS (k:KM):Bool:=aY k.i false && aY k.d false && aY k.p true
def JO (level va satp pte:Int):EntM:=⟨true,level,eg va level,aO satp,bU pte 32,pte⟩
def ir (t:TlbM) (f:FenceM):TlbM:=if jr t=true then ⟨t.sets,t.ways,t.es.map (df f)⟩ else t
def xg (t:TlbM) (e:EntM):Bool:=(aY t true && bK e true) || (aY t false && bK e false)
def gQ (t:TlbM) (e:EntM):Nat:=(e.tag%t.sets*t.ways).toNat
def pE (t:TlbM) (e:EntM) (pick:Int):Nat:=(mO t.es (gQ t e) 0 t.ways.toNat).getD (pick%t.ways).toNat
def eT (t:TlbM) (e:EntM) (pick:Int):TlbM:=
 if xg t e=true∧0<=pick∧pick<=255 then ⟨t.sets,t.ways,t.es.set (gQ t e+pE t e pick) e⟩ else t
def dt (va satp pick:Int):List aQ->TlbM->TlbM
 | [],p=>p
 | r::rs,p=>dt va satp pick rs (if aW r.2.2 r.1=1 then eT p (JO r.1 va satp r.2.2) pick else p)
def aX (zs:List Int) (satp va:Int) (up:Bool × Int × Int × Int):Int × Int × Int × List aQ:=
 if up.1=true then bD zs va (up.2.2.1-1).toNat (dK up.2.2.2) else bO zs satp va
def xh (k:KM) (kind:Int) (t:TlbM):KM:=if kind=0 then ⟨t,k.d,k.p⟩ else ⟨k.i,t,k.p⟩
def fq (k:KM) (kind:Int):TlbM:=if kind=0 then k.i else k.d
def cD (zs:List Int) (mode:Int) (sum mxr:Bool) (satp:Int) (k:KM) (kind va pick:Int):(Int × Int) × KM:=
 if cS k=false∨kind<0∨2<kind∨mode<0∨2<mode∨pick<0∨255<pick then ((63,0),k0M)
 else if onM mode satp=false then ((0,va),k)
 else if de va=false then ((fk kind,0),k)
 else if (cB (fq k kind) va (aO satp)).1=true then (gB (cB (fq k kind) va (aO satp)).2.2.2 (cB (fq k kind) va (aO satp)).2.2.1 mode sum mxr kind va,k)
 else
  let r:=aX zs satp va (cB k.p va (aO satp))
  let a:=cY r mode sum mxr kind va
  let k':KM:=⟨k.i,k.d,dt va satp pick r.2.2.2 k.p⟩
  (a,if a.1=0 then xh k' kind (eT (fq k kind) (JO r.2.1 va satp r.2.2.1) pick) else k')
theorem JM {t:TlbM} {p:Bool} (h:aY t p=true):(t.sets=1∨t.sets=2∨t.sets=4∨t.sets=8)∧1<=t.ways∧t.ways<=4∧(t.es.length:Int)=t.sets*t.ways:=by
 simp only [aY,Bool.and_eq_true,lE,decide_eq_true_eq] at h;exact h.1
theorem jc {t:TlbM} {p:Bool} (h:aY t p=true) (j:Nat) (x:EntM) (hx:t.es[j]?=some x):dy t p j x=true:=by
 simp only [aY,Bool.and_eq_true] at h;have:=mY t p t.es 0 h.2 j x hx;simpa using this
theorem tY {t:TlbM} {p:Bool} (h:lE t=true) (hp:∀(j:Nat) x,t.es[j]?=some x->dy t p j x=true):aY t p=true:=by
 simp only [aY,Bool.and_eq_true];exact ⟨h,il t p t.es 0 (fun j x hx=>by simpa using hp j x hx)⟩
theorem ep {t:TlbM} {p:Bool} (h:aY t p=true):jr t=true:=by
 cases p <;> simp [jr,h]
theorem zE (es:List EntM) (first:Nat):∀(left w r:Nat),mO es first w left=some r->w<=r∧r<w+left
 | 0,w,r,h=>by simp [mO] at h
 | left+1,w,r,h=>by
  rw [mO] at h;split at h
  ·cases h;omega
  ·have:=zE es first left (w+1) r h
   omega
theorem Hi (t:TlbM) (e:EntM) (pick:Int) (hw:1<=t.ways) (hw':t.ways<=4):(pE t e pick:Int)<t.ways:=by
 unfold pE;cases h:mO t.es (gQ t e) 0 t.ways.toNat with
 | none=>
  simp only [Option.getD_none];have h1:0<=pick%t.ways:=Int.emod_nonneg _ (by omega);have h2:pick%t.ways<t.ways:=Int.emod_lt_of_pos _ (by omega);omega
 | some r=>
  simp only [Option.getD_some];have:=zE _ _ _ _ _ h;omega
theorem FA {t:TlbM} {e:EntM} (ht:0<=e.tag) (hs:t.sets=1∨t.sets=2∨t.sets=4∨t.sets=8) (hw:1<=t.ways):(gQ t e:Int)=e.tag%t.sets*t.ways:=by
 unfold gQ;have:0<=e.tag%t.sets:=Int.emod_nonneg _ (by omega);have:=Int.mul_nonneg this (by omega:0<=t.ways);omega
theorem Hj {t:TlbM} {p:Bool} {e:EntM} {pick:Int} (hv:aY t p=true) (ht:0<=e.tag):((gQ t e+pE t e pick:Nat):Int)/t.ways=e.tag%t.sets:=by
 obtain ⟨hs,hw,hw',hl⟩:=JM hv;have h1:=FA (e:=e) ht hs hw;have h2:=Hi t e pick hw hw';rw [show ((gQ t e+pE t e pick:Nat):Int)=(pE t e pick:Int)+(e.tag%t.sets)*t.ways by omega,Int.add_mul_ediv_right _ _ (by omega)];rw [Int.ediv_eq_zero_of_lt (by omega) h2];omega
theorem qS {e:EntM} {p:Bool} (h:bK e p=true):aW e.pte e.level=rC p:=by
 simp only [bK,Bool.and_eq_true,beq_iff_eq] at h;exact h.2
theorem lO (t:TlbM) (e:EntM) (pick:Int) (p:Bool) (hv:aY t p=true) (hg:bK e p=true) (ht:0<=e.tag):aY (eT t e pick) p=true:=by
 unfold eT;split
 ·have hs:=JM hv;refine tY ?_ ?_
  ·simp only [lE,decide_eq_true_eq,List.length_set];exact hs
  ·intro j x hx;simp only [List.getElem?_set] at hx;split at hx
   ·rename_i hj;split at hx
    ·cases hx;subst hj;simp only [dy,Bool.or_eq_true,Bool.and_eq_true,beq_iff_eq];exact .inr ⟨hg,(Hj (pick:=pick) hv ht).symm⟩
    ·cases hx
   ·exact jc hv j x hx
 ·exact hv
theorem mR (t:TlbM) (f:FenceM) (p:Bool) (hv:aY t p=true):aY (ir t f) p=true:=by
 unfold ir;rw [if_pos (ep hv)];have hs:=JM hv;refine tY ?_ ?_
 ·simp only [lE,decide_eq_true_eq,List.length_map];exact hs
 ·intro j x hx;simp only [List.getElem?_map,Option.map_eq_some_iff] at hx;obtain ⟨y,hy,rfl⟩:=hx;have:=jc hv j y hy;unfold df;split
  ·simp [dy,cZ]
  ·exact this
structure HartM where
 mem:List Int
 regs:List Int
 pc:Int
 mode:Int
 sum:Bool
 mxr:Bool
 satp:Int
 tvec:Int
 epc:Int
 emode:Int
 cause:Int
 tval:Int
 k:KM
structure RunM where
 h:HartM
 cause:Int
 tval:Int
 looks:List (Int × Int)
 fenced:Bool
 fence:FenceM
def fh:FenceM:=⟨false,0,false,0⟩
def du (satp:Int):Bool:=satp/1152921504606846976%16 == 0 || satp/1152921504606846976%16 == 8
def eR (n:Nat):Bool:=decide (n%64=0∧64<=n∧n<=4096)
def iR (h:HartM):Bool:=
 decide (h.regs.length=8) && (h.regs[0]?.getD 0 == 0) && decide (0<=h.mode∧h.mode<=2) && decide (0<=h.emode∧h.emode<=2) && du h.satp && (h.tvec%4 == 0) && decide (0<=h.cause∧h.cause<=63)
def rZ (h:HartM):Bool:=eR h.mem.length && iR h && cS h.k
def aV (plain:Bool) (pick:Int) (h:HartM) (kind va:Int):(Int × Int) × KM:=
 if plain=true then (gx h.mem h.mode h.sum h.mxr h.satp kind va,h.k) else cD h.mem h.mode h.sum h.mxr h.satp h.k kind va pick
def withK (h:HartM) (k:KM):HartM:=⟨h.mem,h.regs,h.pc,h.mode,h.sum,h.mxr,h.satp,h.tvec,h.epc,h.emode,h.cause,h.tval,k⟩
def et (h:HartM) (mem:List Int):HartM:=⟨mem,h.regs,h.pc,h.mode,h.sum,h.mxr,h.satp,h.tvec,h.epc,h.emode,h.cause,h.tval,h.k⟩
def eW (h:HartM) (regs:List Int):HartM:=⟨h.mem,regs,h.pc,h.mode,h.sum,h.mxr,h.satp,h.tvec,h.epc,h.emode,h.cause,h.tval,h.k⟩
def dX (h:HartM) (pc:Int):HartM:=⟨h.mem,h.regs,pc,h.mode,h.sum,h.mxr,h.satp,h.tvec,h.epc,h.emode,h.cause,h.tval,h.k⟩
def bM (r:RunM) (h:HartM):RunM:=⟨h,r.cause,r.tval,r.looks,r.fenced,r.fence⟩
def bS (r:RunM) (cause tval:Int):RunM:=⟨r.h,cause,tval,r.looks,r.fenced,r.fence⟩
def bf (plain:Bool) (pick:Int) (r:RunM) (kind va:Int):RunM:=
 ⟨withK r.h (aV plain pick r.h kind va).2,r.cause,r.tval,r.looks++[(kind,va)],r.fenced,r.fence⟩
abbrev bH:=Int × Int × Int
def cM (va w:Int):List bH:=
 if 64-va%64<w then [(va,64-va%64,0),((va+(64-va%64))%18446744073709551616,w-(64-va%64),0)] else [(va,w,0)]
def ag (plain:Bool) (pick kind:Int):RunM->List bH->RunM × List bH
 | r,[]=>(r,[])
 | r,p::ps=>
  if (aV plain pick r.h kind p.1).1.1=0 then
   ((ag plain pick kind (bf plain pick r kind p.1) ps).1,(p.1,p.2.1,(aV plain pick r.h kind p.1).1.2)::(ag plain pick kind (bf plain pick r kind p.1) ps).2)
  else (bS (bf plain pick r kind p.1) (aV plain pick r.h kind p.1).1.1 p.1,p::ps)
def fY (mem:List Int):List bH->Option Int
 | []=>none
 | p::ps=>if fN mem.length p.2.2 p.2.1=true then fY mem ps else some p.1
def aw (plain:Bool) (pick:Int) (r:RunM) (kind va w:Int):RunM × List bH:=
 if (ag plain pick kind r (cM va w)).1.cause=0 then
  match fY (ag plain pick kind r (cM va w)).1.h.mem (ag plain pick kind r (cM va w)).2 with
  | none=>ag plain pick kind r (cM va w)
  | some v=>(bS (ag plain pick kind r (cM va w)).1 (bY kind) v,(ag plain pick kind r (cM va w)).2)
 else ag plain pick kind r (cM va w)
def cN (mem:List Int):List bH->List Int
 | []=>[]
 | p::ps=>(mem.drop p.2.2.toNat).take p.2.1.toNat++cN mem ps
def jk (mem:List Int) (ps:List bH):Int:=num (cN mem ps)
def jd:List Int->List bH->List Int->List Int
 | mem,[],_=>mem
 | mem,p::ps,b=>jd (put mem p.2.2.toNat (b.take p.2.1.toNat)) ps (b.drop p.2.1.toNat)
def gu (h:HartM) (a:Int):Int:=h.regs[a.toNat]?.getD 0
def cz (r:RunM) (a x:Int):RunM:=bM r (eW r.h (if 0<a then r.h.regs.set a.toNat x else r.h.regs))
def iA (s:Int):Int:=if 128<=s then s-256 else s
def je (n:Int):Int:=2^n.toNat
def bR (op c mode:Int):Bool:=
 decide (9<=op∧op<=11∧mode=0) || decide ((op=12∨op=13)∧mode≠2) || decide (op=13∧2<c)
def kf (h:HartM) (a b:Int):FenceM:=⟨decide (a≠0),gu h a,decide (b≠0),gu h b%65536⟩
def jl (k:KM) (f:FenceM):KM:=⟨ir k.i f,ir k.d f,ir k.p f⟩
def iB (plain:Bool) (pick:Int) (r:RunM) (ea w a:Int):RunM:=
 if (aw plain pick r 1 ea w).1.cause=0 then cz (aw plain pick r 1 ea w).1 a (jk (aw plain pick r 1 ea w).1.h.mem (aw plain pick r 1 ea w).2) else (aw plain pick r 1 ea w).1
def dg (t:RunM × List bH) (b:List Int):RunM:=bM t.1 (et t.1.h (jd t.1.h.mem t.2 b))
def fJ (plain:Bool) (pick:Int) (r:RunM) (ea w x:Int):RunM:=
 if (aw plain pick r 2 ea w).1.cause=0 then dg (aw plain pick r 2 ea w) (cT x w.toNat) else (aw plain pick r 2 ea w).1
def mg (plain:Bool) (pick:Int) (r:RunM) (ea a x:Int):RunM:=
 if (aw plain pick r 2 ea 8).1.cause=0 then cz (dg (aw plain pick r 2 ea 8) (cT ((jk (aw plain pick r 2 ea 8).1.h.mem (aw plain pick r 2 ea 8).2+x)%18446744073709551616) 8)) a (jk (aw plain pick r 2 ea 8).1.h.mem (aw plain pick r 2 ea 8).2) else (aw plain pick r 2 ea 8).1
def eaM (h:HartM) (b s:Int):Int:=(gu h b+iA s)%18446744073709551616
def doM (plain:Bool) (pick:Int) (r:RunM) (pc op a b c s word:Int):RunM:=
 if bR op c r.h.mode=true then bS r 2 word
 else if op=1 then cz r a (iA s%18446744073709551616)
 else if op=2 then cz r a ((gu r.h b+gu r.h c)%18446744073709551616)
 else if op=3 then cz r a (eaM r.h b s)
 else if op=4 then cz r a (gu r.h b*je (s%64)%18446744073709551616)
 else if op=5 then iB plain pick r (eaM r.h b s) (je (c%4)) a
 else if op=6 then fJ plain pick r (eaM r.h b s) (je (c%4)) (gu r.h a)
 else if op=7 then mg plain pick r (eaM r.h b s) a (gu r.h c)
 else if op=8 then (if gu r.h a=gu r.h b then r else bM r (dX r.h ((pc+4*iA s)%18446744073709551616)))
 else if op=9 then (if du (gu r.h a)=true then bM r ⟨r.h.mem,r.h.regs,r.h.pc,r.h.mode,r.h.sum,r.h.mxr,gu r.h a,r.h.tvec,r.h.epc,r.h.emode,r.h.cause,r.h.tval,r.h.k⟩ else r)
 else if op=10 then bM r ⟨r.h.mem,r.h.regs,r.h.pc,r.h.mode,bU (gu r.h a) 1,bU (gu r.h a) 2,r.h.satp,r.h.tvec,r.h.epc,r.h.emode,r.h.cause,r.h.tval,r.h.k⟩
 else if op=11 then ⟨if plain=true then r.h else withK r.h (jl r.h.k (kf r.h a b)),r.cause,r.tval,r.looks,true,kf r.h a b⟩
 else if op=12 then bM r ⟨r.h.mem,r.h.regs,(r.h.epc+4*iA s)%18446744073709551616,r.h.emode,r.h.sum,r.h.mxr,r.h.satp,r.h.tvec,r.h.epc,r.h.emode,r.h.cause,r.h.tval,r.h.k⟩
 else if op=13 then bM r ⟨r.h.mem,r.h.regs,r.h.pc,r.h.mode,r.h.sum,r.h.mxr,r.h.satp,r.h.tvec,gu r.h a,c,r.h.cause,r.h.tval,r.h.k⟩
 else if op=14 then bS r (8+r.h.mode) 0
 else bS r 2 word
def fj (plain:Bool) (pick:Int) (r:RunM) (op p q s word:Int):RunM:=
 doM plain pick (bM r (dX r.h ((r.h.pc+4)%18446744073709551616))) r.h.pc op (p%8) (p/8%8) (q%8) s word
def bj (t:TlbM) (n:Int):TlbM:=⟨t.sets,t.ways,t.es.set (n%t.es.length).toNat cZ⟩
def fi (plain:Bool) (pick:Int) (k:KM):KM:=
 if 128<=pick∧plain=false then ⟨bj k.i (pick-128),bj k.d (pick-128),bj k.p (pick-128)⟩ else k
def jf (plain:Bool) (pick:Int) (h:HartM):Int:=rdV h.mem (aV plain pick h 0 h.pc).1.2 4
def hH (plain:Bool) (pick:Int) (r:RunM) (x:Int):RunM:=fj plain pick r (x%256) (x/256%256) (x/65536%256) (x/16777216) x
def dn (plain:Bool) (pick:Int) (r:RunM):RunM:=
 if r.h.pc%4=0 then
  if (aV plain pick r.h 0 r.h.pc).1.1=0 then
   if dZ r.h.mem.length (aV plain pick r.h 0 r.h.pc).1.2 4=true then hH plain pick (bf plain pick r 0 r.h.pc) (jf plain pick r.h)
   else bS (bf plain pick r 0 r.h.pc) 1 r.h.pc
  else bS (bf plain pick r 0 r.h.pc) (aV plain pick r.h 0 r.h.pc).1.1 r.h.pc
 else bS r 20 r.h.pc
def bI (plain:Bool) (pick:Int) (h:HartM):RunM:=⟨withK h (fi plain pick h.k),0,0,[],false,fh⟩
def dB (h:HartM) (r:RunM):HartM:=⟨h.mem,h.regs,h.tvec,2,h.sum,h.mxr,h.satp,h.tvec,h.pc,h.mode,r.cause,r.tval,r.h.k⟩
def lQ (h:HartM) (r:RunM):RunM:=if r.cause=0 then r else bM r (dB h r)
def bT (plain:Bool) (pick:Int) (h:HartM):RunM:=lQ h (dn plain pick (bI plain pick h))
structure EvM where
 pc:Int
 mode:Int
 cause:Int
 tval:Int
def eM (plain:Bool):List Int->HartM->List EvM × HartM
 | [],h=>([],h)
 | p::ps,h=>(⟨h.pc,h.mode,(bT plain p h).cause,(bT plain p h).tval⟩::(eM plain ps (bT plain p h).h).1,(eM plain ps (bT plain p h).h).2)
def atM (b:List Int) (i:Nat):Int:=b[i]?.getD 0
def cE (b:List Int) (i:Nat):Int:=num ((List.range 8).map fun k=>atM b (i+k))
def ac (y:Int):TlbM:=⟨2^(y%4).toNat,1+y/4%4,List.replicate (2^(y%4).toNat*(1+y/4%4).toNat) cZ⟩
def jW (b:List Int):Nat->Nat->Nat->List Int->List Int
 | 0,_,_,mem=>mem
 | m+1,i,a,mem=>jW b m (i+1) (a+1) (if a<mem.length then mem.set a (atM b i) else mem)
def oQ (b:List Int) (i:Nat):Nat:=(atM b i+256*atM b (i+1)).toNat
def gY (b:List Int):Nat->Nat->List Int->List Int × Nat
 | 0,i,mem=>(mem,i)
 | n+1,i,mem=>gY b n (i+3+(atM b (i+2)).toNat) (jW b (atM b (i+2)).toNat (i+3) (oQ b i) mem)
def co (y:Int):Int:=if y%4=3 then 1 else y%4
def it (b:List Int):Nat:=min (atM b 5+256*atM b 6).toNat 20000
def pF (b:List Int):List Int × Nat:=gY b (atM b 87).toNat 88 (List.replicate (64*(1+(atM b 3%64).toNat)) 0)
def jm (b:List Int):List Int:=0::(List.range 7).map fun r=>cE b (31+8*r)
def aI (b:List Int):HartM:=
 ⟨(pF b).1,jm b,cE b 7,co (atM b 4),atM b 4/4%2 == 1,atM b 4/8%2 == 1,if du (cE b 23)=true then cE b 23 else 0,cE b 15/4*4,0,co (atM b 4),0,0,⟨ac (atM b 0),ac (atM b 1),ac (atM b 2)⟩⟩
def bq (b:List Int):List Int:=(List.range (it b)).map fun k=>atM b ((pF b).2+k)
theorem pw (zs:List Int) (va:Int):∀(l:Nat) (n:Int),(bD zs va l n).1=1∨(bD zs va l n).1=2∨(bD zs va l n).1=3
 | 0,n=>by
  unfold bD;split
  ·simp
  ·split
   ·simp
   ·split <;> simp
 | l+1,n=>by
  unfold bD;split
  ·simp
  ·split
   ·simp
   ·split
    ·simp
    ·exact pw zs va l _
theorem lG (zs:List Int) (root va:Int):(bO zs root va).1=1∨(bO zs root va).1=2∨(bO zs root va).1=3:=by
 unfold bO;split
 ·simp
 ·exact pw zs va 2 _
theorem BZ (va level:Int) (h0:0<=level) (h2:level<=2):0<=eg va level∧eg va level<AE level:=by
 unfold eg AE;rcases (show level=0∨level=1∨level=2 by omega) with rfl | rfl | rfl <;> simp <;> omega
theorem rH {pte level:Int} (h:aW pte level≠0):0<=level∧level<=2:=by
 unfold aW at h;split at h
 ·exact absurd rfl h
 ·omega
theorem kV (level va satp pte:Int) (p:Bool) (hk:aW pte level=rC p):bK (JO level va satp pte) p=true:=by
 have hl:=rH (by rw [hk];cases p <;> decide);have ht:=BZ va level hl.1 hl.2;have ha:aO satp<=65535:=by unfold aO;omega
 simp [bK,JO,hl.1,hl.2,ht.2,ha,hk]
theorem zw (level va satp pte:Int) (p:Bool) (hk:aW pte level=rC p):0<=(JO level va satp pte).tag:=by
 have hl:=rH (by rw [hk];cases p <;> decide);exact (BZ va level hl.1 hl.2).1
theorem pC (va satp pick:Int):∀(rs:List aQ) (p:TlbM),aY p true=true->aY (dt va satp pick rs p) true=true
 | [],p,h=>h
 | r::rs,p,h=>by
  rw [dt];refine pC va satp pick rs _ ?_;split
  ·rename_i hk;exact lO p _ pick true h (kV _ _ _ _ true hk) (zw _ _ _ _ true hk)
  ·exact h
theorem pD (zs:List Int) (va:Int):∀(l:Nat) (n:Int),(bD zs va l n).1=1->aW (bD zs va l n).2.2.1 (bD zs va l n).2.1=2
 | 0,n=>by
  intro h;unfold bD at h |-;split at h
  ·simp at h
  ·rename_i h1;rw [if_neg h1];split at h
   ·simp at h
   ·rename_i h2;rw [if_neg h2];split at h
    ·rename_i h3;rw [if_pos h3];exact h3
    ·simp at h
 | l+1,n=>by
  intro h;unfold bD at h |-;split at h
  ·simp at h
  ·rename_i h1;rw [if_neg h1];split at h
   ·simp at h
   ·rename_i h2;rw [if_neg h2];split at h
    ·rename_i h3;rw [if_pos h3];exact h3
    ·rename_i h3;rw [if_neg h3];exact pD zs va l _ h
theorem AV (zs:List Int) (root va:Int) (h:(bO zs root va).1=1):aW (bO zs root va).2.2.1 (bO zs root va).2.1=2:=by
 unfold bO at h |-;split at h
 ·simp at h
 ·rename_i hc;rw [if_neg hc];exact pD zs va 2 _ h
theorem mQ (kind:Int):fk kind≠0:=by
 unfold fk;split
 ·decide
 ·split <;> decide
theorem iK (kind:Int):bY kind≠0:=by
 unfold bY;split
 ·decide
 ·split <;> decide
theorem tX (zs:List Int) (mode:Int) (sum mxr:Bool) (satp:Int) (k:KM) (kind va pick:Int) (hk:cS k=true) (h1:0<=kind∧kind<=2) (h2:0<=mode∧mode<=2) (h3:0<=pick∧pick<=255):
 cS (cD zs mode sum mxr satp k kind va pick).2=true:=by
 have hk':=hk;simp only [cS,Bool.and_eq_true] at hk';obtain ⟨⟨gi,gd⟩,gp⟩:=hk';unfold cD;rw [if_neg (by rw [hk];simp;omega)];split
 ·exact hk
 ·split
  ·exact hk
  ·split
   ·exact hk
   ·simp only;have gp':=pC va satp pick (aX zs satp va (cB k.p va (aO satp))).2.2.2 k.p gp;split
    ·rename_i ha;have hkind:aW (aX zs satp va (cB k.p va (aO satp))).2.2.1 (aX zs satp va (cB k.p va (aO satp))).2.1=2:=by
      have hcode:(aX zs satp va (cB k.p va (aO satp))).1=1:=by
       have hc:(aX zs satp va (cB k.p va (aO satp))).1=1∨(aX zs satp va (cB k.p va (aO satp))).1=2∨(aX zs satp va (cB k.p va (aO satp))).1=3:=by
        unfold aX;split
        ·exact pw zs va _ _
        ·exact lG zs satp va
       unfold cY at ha;rcases hc with hc | hc | hc
       ·exact hc
       ·rw [if_pos hc] at ha;exact absurd ha (mQ kind)
       ·rw [if_neg (by rw [hc];decide),if_pos hc] at ha;exact absurd ha (iK kind)
      unfold aX at hcode |-;split at hcode
      ·rename_i hu;rw [if_pos hu];exact pD zs va _ _ hcode
      ·rename_i hu;rw [if_neg hu];exact AV zs satp va hcode
     have hge:=kV _ va satp _ false hkind;have hgt:=zw _ va satp _ false hkind;unfold xh fq;split
     ·simp only [cS,Bool.and_eq_true];exact ⟨⟨lO _ _ pick false gi hge hgt,gd⟩,gp'⟩
     ·simp only [cS,Bool.and_eq_true];exact ⟨⟨gi,lO _ _ pick false gd hge hgt⟩,gp'⟩
    ·simp only [cS,Bool.and_eq_true];exact ⟨⟨gi,gd⟩,gp'⟩
theorem zd {r:Int × Int × Int × List aQ} {mode:Int} {sum mxr:Bool} {kind va:Int} (ha:(cY r mode sum mxr kind va).1=0):
 r.1≠2∧r.1≠3∧cQ r.2.2.1 kind mode sum mxr=true∧(cY r mode sum mxr kind va).2=fT r.2.2.1 r.2.1 va:=by
 unfold cY at ha |-;by_cases h2:r.1=2
 ·rw [if_pos h2] at ha;exact absurd ha (mQ kind)
 ·rw [if_neg h2] at ha |-;by_cases h3:r.1=3
  ·rw [if_pos h3] at ha;exact absurd ha (iK kind)
  ·rw [if_neg h3] at ha |-;unfold gB at ha |-;by_cases hg:cQ r.2.2.1 kind mode sum mxr=true
   ·rw [if_pos hg];exact ⟨h2,h3,hg,rfl⟩
   ·rw [if_neg hg] at ha;exact absurd ha (mQ kind)
abbrev ay:=Int × Int × Bool × aQ
def eL (g:ay) (va asid:Int):Bool:=g.1 == eg va g.2.2.2.1 && (g.2.2.1 || g.2.1 == asid)
def fz (va satp:Int) (r:aQ):ay:=(eg va r.1,aO satp,bU r.2.2 32,r)
def qR (gs:List ay) (g:ay):List ay:=if g∈gs then gs else gs++[g]
def dU (h:HartM) (kind va:Int):List aQ->List ay->List ay
 | [],gs=>gs
 | r::rs,gs=>dU h kind va rs (if (aW r.2.2 r.1 == 1 || cQ r.2.2 kind h.mode h.sum h.mxr)=true then qR gs (fz va h.satp r) else gs)
def lJ (gs:List ay) (h:HartM) (va:Int):Bool:=
 gs.all fun g=>!eL g va (aO h.satp) || decide (g.2.2.2∈(bO h.mem h.satp va).2.2.2)
def dl (gs:List ay) (h:HartM) (look:Int × Int):Bool × List ay:=
 if onM h.mode h.satp=false∨de look.2=false then (true,gs)
 else if lJ gs h look.2=true then (true,dU h look.1 look.2 (bO h.mem h.satp look.2).2.2.2 gs) else (false,gs)
def be (h:HartM):List (Int × Int)->List ay->Bool × List ay
 | [],gs=>(true,gs)
 | l::ls,gs=>if (dl gs h l).1=true then be h ls (dl gs h l).2 else (false,(dl gs h l).2)
def dD (gs:List ay) (f:FenceM):List ay:=gs.filter fun g=>!eS f g.2.2.2.1 g.1 g.2.1 g.2.2.1
def eu (r:RunM) (gs:List ay):List ay:=if r.fenced=true then dD gs r.fence else gs
def jV:List Int->HartM->List ay->Nat->Bool × Nat
 | [],_,_,i=>(true,i)
 | p::ps,h,gs,i=>if (be h (bT true p h).looks gs).1=true then jV ps (bT true p h).h (eu (bT true p h) (be h (bT true p h).looks gs).2) (i+1) else (false,i)
def zn (g:ay) (e:EntM):Prop:=g.1=e.tag∧g.2.1=e.asid∧g.2.2.1=e.glob∧g.2.2.2.1=e.level∧g.2.2.2.2.2=e.pte
def CovT (t:TlbM) (gs:List ay):Prop:=∀e∈t.es,e.valid=true->∃g∈gs,zn g e
def CovK (k:KM) (gs:List ay):Prop:=CovT k.i gs∧CovT k.d gs∧CovT k.p gs
theorem CovT.mono {t:TlbM} {gs gs':List ay} (h:CovT t gs) (hs:∀g∈gs,g∈gs'):CovT t gs':=fun e he hv=>by
 obtain ⟨g,hg,hs'⟩:=h e he hv;exact ⟨g,hs g hg,hs'⟩
theorem CovK.mono {k:KM} {gs gs':List ay} (h:CovK k gs) (hs:∀g∈gs,g∈gs'):CovK k gs':=⟨h.1.mono hs,h.2.1.mono hs,h.2.2.mono hs⟩
theorem CovT.insert {t:TlbM} {gs:List ay} {e:EntM} {pick:Int} (h:CovT t gs) (he:∃g∈gs,zn g e):CovT (eT t e pick) gs:=by
 unfold eT;split
 ·intro x hx hv;rcases List.mem_or_eq_of_mem_set hx with hx | rfl
  ·exact h x hx hv
  ·exact he
 ·exact h
theorem tM (va satp:Int) (r:aQ):zn (fz va satp r) (JO r.1 va satp r.2.2):=⟨rfl,rfl,rfl,rfl,rfl⟩
theorem CovT.ptrs {gs:List ay} {va satp pick:Int}:∀(rs:List aQ) (p:TlbM),CovT p gs->(∀r∈rs,aW r.2.2 r.1=1->fz va satp r∈gs)->CovT (dt va satp pick rs p) gs
 | [],p,h,_=>h
 | r::rs,p,h,hr=>by
  rw [dt];refine CovT.ptrs rs _ ?_ (fun x hx=>hr x (List.mem_cons_of_mem _ hx));split
  ·rename_i hk;exact h.insert ⟨_,hr r (List.mem_cons_self ..) hk,tM va satp r⟩
  ·exact h
theorem CovT.flush {t:TlbM} {gs:List ay} {f:FenceM} (h:CovT t gs) (he:jr t=true):CovT (ir t f) (dD gs f):=by
 unfold ir;rw [if_pos he];intro x hx hv;simp only [List.mem_map] at hx;obtain ⟨y,hy,rfl⟩:=hx;unfold df at hv |-;split at hv
 ·simp [cZ] at hv
 ·rename_i hc;rw [if_neg hc];obtain ⟨g,hg,h1,h2,h3,h4,h5⟩:=h y hy hv;refine ⟨g,?_,h1,h2,h3,h4,h5⟩;simp only [dD,List.mem_filter,h1,h2,h3,h4,Bool.not_eq_true'];refine ⟨hg,?_⟩;simp only [hv,Bool.true_and,Bool.not_eq_true] at hc;exact hc
theorem CovT.evict {t:TlbM} {gs:List ay} {n:Int} (h:CovT t gs):CovT (bj t n) gs:=by
 intro x hx hv;rcases List.mem_or_eq_of_mem_set hx with hx | rfl
 ·exact h x hx hv
 ·simp [cZ] at hv
theorem CovK.evict {k:KM} {gs:List ay} {plain:Bool} {pick:Int} (h:CovK k gs):CovK (fi plain pick k) gs:=by
 unfold fi;split
 ·exact ⟨h.1.evict,h.2.1.evict,h.2.2.evict⟩
 ·exact h
theorem mK (t:TlbM) (n:Int) (p:Bool) (hv:aY t p=true):aY (bj t n) p=true:=by
 have hs:=JM hv;refine tY ?_ ?_
 ·simp only [lE,bj,decide_eq_true_eq,List.length_set];exact hs
 ·intro j x hx;simp only [bj,List.getElem?_set] at hx;split at hx
  ·split at hx
   ·cases hx;simp [dy,cZ]
   ·cases hx
  ·exact jc hv j x hx
theorem tN (plain:Bool) (pick:Int) (k:KM) (h:cS k=true):cS (fi plain pick k)=true:=by
 unfold fi;split
 ·simp only [cS,Bool.and_eq_true] at h |-;exact ⟨⟨mK _ _ _ h.1.1,mK _ _ _ h.1.2⟩,mK _ _ _ h.2⟩
 ·exact h
theorem rF (k:KM) (f:FenceM) (h:cS k=true):cS (jl k f)=true:=by
 simp only [cS,jl,Bool.and_eq_true] at h |-;exact ⟨⟨mR _ _ _ h.1.1,mR _ _ _ h.1.2⟩,mR _ _ _ h.2⟩
theorem CovK.flush {k:KM} {gs:List ay} {f:FenceM} (h:CovK k gs) (hk:cS k=true):CovK (jl k f) (dD gs f):=by
 simp only [cS,Bool.and_eq_true] at hk;exact ⟨h.1.flush (ep hk.1.1),h.2.1.flush (ep hk.1.2),h.2.2.flush (ep hk.2)⟩
theorem vk (va asid l:Int):∀(es:List EntM) (i k:Nat) (x:EntM),er va asid l i es=some (k,x)->x∈es∧jU va asid l x=true
 | e::r,i,k,x,h=>by
  rw [er] at h;split at h
  ·rename_i hh;cases h;exact ⟨List.mem_cons_self ..,hh⟩
  ·have:=vk va asid l r (i+1) k x h;exact ⟨List.mem_cons_of_mem _ this.1,this.2⟩
theorem BV {t:TlbM} {va asid:Int} (h:(cB t va asid).1=true):∃x∈t.es,kN x va asid=true∧(cB t va asid).2.2.1=x.level∧(cB t va asid).2.2.2=x.pte:=by
 have one:∀(l:Int) (o:Option (Nat × EntM)) (z:Bool × Int × Int × Int),er va asid l 0 t.es=o->iS l o=some z->∃x∈t.es,kN x va asid=true∧z.2.2.1=x.level∧z.2.2.2=x.pte:=by
  intro l o z ho hz;cases o with
  | none=>cases hz
  | some q=>
   obtain ⟨k,x⟩:=q;obtain ⟨hm,hh⟩:=vk va asid l t.es 0 k x ho;simp only [jU,Bool.and_eq_true,beq_iff_eq] at hh;cases hz;exact ⟨x,hm,hh.2,hh.1.symm,rfl⟩
 unfold cB at h |-;split at h
 ·cases h
 ·rename_i he;rw [if_neg he];cases h0:iS 0 (er va asid 0 0 t.es) with
  | some z=>exact one 0 _ z rfl h0
  | none=>
   cases h1:iS 1 (er va asid 1 0 t.es) with
   | some z=>simp only [Option.none_or];exact one 1 _ z rfl h1
   | none=>
    cases h2:iS 2 (er va asid 2 0 t.es) with
    | some z=>exact one 2 _ z rfl h2
    | none=>simp [h0,h1,h2] at h
theorem pA (zs:List Int) (va:Int):∀(l:Nat) (n:Int) (r:aQ),r∈(bD zs va l n).2.2.2->
 (aW r.2.2 r.1=2->(bD zs va l n).1=1∧(bD zs va l n).2.1=r.1∧(bD zs va l n).2.2.1=r.2.2)∧
 (aW r.2.2 r.1=1->(bD zs va (r.1-1).toNat (dK r.2.2)).1=(bD zs va l n).1∧(bD zs va (r.1-1).toNat (dK r.2.2)).2.1=(bD zs va l n).2.1∧(bD zs va (r.1-1).toNat (dK r.2.2)).2.2.1=(bD zs va l n).2.2.1∧∀x∈(bD zs va (r.1-1).toNat (dK r.2.2)).2.2.2,x∈(bD zs va l n).2.2.2)
 | 0,n,r,h=>by
  unfold bD at h;split at h
  ·cases h
  ·rename_i h1;split at h
   ·cases h
   ·rename_i h2;split at h
    ·rename_i h3;simp only [List.mem_singleton] at h;subst h;refine ⟨fun _=>?_,fun hk=>?_⟩
     ·unfold bD;rw [if_neg h1,if_neg h2,if_pos h3];exact ⟨rfl,rfl,rfl⟩
     ·simp only at hk h3;omega
    ·cases h
 | l+1,n,r,h=>by
  have e:bD zs va (l+1) n=if dZ zs.length (64*n+8*dq va ((l+1:Nat):Int)) 8=false then (3,((l+1:Nat):Int),0,[])
   else if aW (rdV zs (64*n+8*dq va ((l+1:Nat):Int)) 8) ((l+1:Nat):Int)=0 then (2,((l+1:Nat):Int),0,[])
   else if aW (rdV zs (64*n+8*dq va ((l+1:Nat):Int)) 8) ((l+1:Nat):Int)=2 then (1,((l+1:Nat):Int),rdV zs (64*n+8*dq va ((l+1:Nat):Int)) 8,[(((l+1:Nat):Int),64*n+8*dq va ((l+1:Nat):Int),rdV zs (64*n+8*dq va ((l+1:Nat):Int)) 8)])
   else ((bD zs va l (dK (rdV zs (64*n+8*dq va ((l+1:Nat):Int)) 8))).1,(bD zs va l (dK (rdV zs (64*n+8*dq va ((l+1:Nat):Int)) 8))).2.1,(bD zs va l (dK (rdV zs (64*n+8*dq va ((l+1:Nat):Int)) 8))).2.2.1,
    (((l+1:Nat):Int),64*n+8*dq va ((l+1:Nat):Int),rdV zs (64*n+8*dq va ((l+1:Nat):Int)) 8)::(bD zs va l (dK (rdV zs (64*n+8*dq va ((l+1:Nat):Int)) 8))).2.2.2):=by
   rw [bD]
  rw [e] at h |-;generalize rdV zs (64*n+8*dq va ((l+1:Nat):Int)) 8=pte at h |-;generalize 64*n+8*dq va ((l+1:Nat):Int)=ad at h |-;by_cases h1:dZ zs.length ad 8=false
  ·rw [if_pos h1] at h;cases h
  ·rw [if_neg h1] at h |-;by_cases h2:aW pte ((l+1:Nat):Int)=0
   ·rw [if_pos h2] at h;cases h
   ·rw [if_neg h2] at h |-;by_cases h3:aW pte ((l+1:Nat):Int)=2
    ·rw [if_pos h3] at h |-;simp only [List.mem_singleton] at h;subst h;refine ⟨fun _=>⟨rfl,rfl,rfl⟩,fun hk=>?_⟩;simp only at hk;omega
    ·rw [if_neg h3] at h |-;rcases List.mem_cons.1 h with rfl | h
     ·refine ⟨fun hk=>absurd hk h3,fun _=>?_⟩;simp only;rw [show (((l+1:Nat):Int)-1).toNat=l by omega];exact ⟨rfl,rfl,rfl,fun x hx=>List.mem_cons_of_mem _ hx⟩
     ·obtain ⟨q1,q2⟩:=pA zs va l (dK pte) r h;refine ⟨q1,fun hk=>?_⟩;obtain ⟨a1,a2,a3,a4⟩:=q2 hk;exact ⟨a1,a2,a3,fun x hx=>List.mem_cons_of_mem _ (a4 x hx)⟩
theorem zp {gs:List ay} {g x:ay} (h:x∈gs∨x=g):x∈qR gs g:=by
 unfold qR;split
 ·rcases h with h | rfl
  ·exact h
  ·assumption
 ·rcases h with h | rfl
  ·exact List.mem_append_left _ h
  ·exact List.mem_append_right _ (List.mem_singleton.2 rfl)
theorem tO (h:HartM) (kind va:Int):∀(rs:List aQ) (gs:List ay),∀g∈gs,g∈dU h kind va rs gs
 | [],gs,g,hg=>hg
 | r::rs,gs,g,hg=>by
  rw [dU];refine tO h kind va rs _ g ?_;split
  ·exact zp (.inl hg)
  ·exact hg
theorem zq (h:HartM) (kind va:Int):∀(rs:List aQ) (gs:List ay) (r:aQ),r∈rs->(aW r.2.2 r.1=1∨cQ r.2.2 kind h.mode h.sum h.mxr=true)->fz va h.satp r∈dU h kind va rs gs
 | x::rs,gs,r,hr,hk=>by
  rw [dU];rcases List.mem_cons.1 hr with rfl | hr
  ·refine tO h kind va rs _ _ ?_;rw [if_pos (by rcases hk with hk | hk <;> simp [hk])];exact zp (.inr rfl)
  ·exact zq h kind va rs _ r hr hk
theorem AS (h:HartM) (k:KM) (gs:List ay) (kind va pick:Int) (hk:cS k=true) (hc:CovK k gs) (h1:0<=kind∧kind<=2) (h2:0<=h.mode∧h.mode<=2) (h3:0<=pick∧pick<=255) (hj:(dl gs h (kind,va)).1=true):
 (cD h.mem h.mode h.sum h.mxr h.satp k kind va pick).1=gx h.mem h.mode h.sum h.mxr h.satp kind va∧CovK (cD h.mem h.mode h.sum h.mxr h.satp k kind va pick).2 (dl gs h (kind,va)).2:=by
 have hb1:¬(cS k=false∨kind<0∨2<kind∨h.mode<0∨2<h.mode∨pick<0∨255<pick):=by rw [hk];simp;omega
 have hb2:¬(kind<0∨2<kind∨h.mode<0∨2<h.mode):=by omega
 have e1:gx h.mem h.mode h.sum h.mxr h.satp kind va=if onM h.mode h.satp=false then (0,va) else cY (bO h.mem h.satp va) h.mode h.sum h.mxr kind va:=by
  unfold gx;rw [if_neg hb2]
 rw [e1];unfold cD;rw [if_neg hb1];by_cases hon:onM h.mode h.satp=false
 ·rw [if_pos hon,if_pos hon];refine ⟨rfl,?_⟩;unfold dl;rw [if_pos (.inl hon)];exact hc
 rw [if_neg hon,if_neg hon];by_cases hcan:de va=false
 ·rw [if_pos hcan];refine ⟨?_,?_⟩
  ·unfold bO cY;rw [if_pos hcan,if_pos rfl]
  ·unfold dl;rw [if_pos (.inr hcan)];exact hc
 rw [if_neg hcan];have hno:¬(onM h.mode h.satp=false∨de va=false):=by rintro (h | h);exact hon h;exact hcan h
 have hlk:lJ gs h va=true:=by
  unfold dl at hj;rw [if_neg hno] at hj;split at hj
  ·assumption
  ·cases hj
 have ej:(dl gs h (kind,va)).2=dU h kind va (bO h.mem h.satp va).2.2.2 gs:=by
  unfold dl;rw [if_neg hno,if_pos hlk]
 rw [ej];have hold:=tO h kind va (bO h.mem h.satp va).2.2.2 gs;have hnew:=zq h kind va (bO h.mem h.satp va).2.2.2 gs;have ew:bO h.mem h.satp va=bD h.mem va 2 (h.satp%17592186044416):=by unfold bO;rw [if_neg hcan]
 have hk':=hk;simp only [cS,Bool.and_eq_true] at hk';obtain ⟨⟨gi,gd⟩,gp⟩:=hk';have rec_of:∀(t:TlbM) (x:EntM),CovT t gs->x∈t.es->kN x va (aO h.satp)=true->∃ad,(x.level,ad,x.pte)∈(bO h.mem h.satp va).2.2.2:=by
  intro t x hct hx hf;simp only [kN,Bool.and_eq_true,beq_iff_eq,Bool.or_eq_true] at hf;obtain ⟨⟨hval,htag⟩,hga⟩:=hf;obtain ⟨g,hg,s1,s2,s3,s4,s5⟩:=hct x hx hval;have hall:=List.all_eq_true.1 hlk g hg;have hfit:eL g va (aO h.satp)=true:=by
   simp only [eL,Bool.and_eq_true,beq_iff_eq,Bool.or_eq_true];rw [s1,s2,s3,s4];exact ⟨htag,hga⟩
  rw [hfit] at hall;simp only [Bool.not_true,Bool.false_or,decide_eq_true_eq] at hall;refine ⟨g.2.2.2.2.1,?_⟩;rw [<-s4,<-s5];exact hall
 have gt:aY (fq k kind) false=true:=by unfold fq;split <;> assumption
 have ct:CovT (fq k kind) gs:=by unfold fq;split;exact hc.1;exact hc.2.1
 by_cases hh:(cB (fq k kind) va (aO h.satp)).1=true
 ·rw [if_pos hh];refine ⟨?_,hc.mono hold⟩;obtain ⟨x,hx,hf,e3,e4⟩:=BV hh;obtain ⟨ad,hr⟩:=rec_of _ x ct hx hf;have hkind:aW x.pte x.level=2:=by
   obtain ⟨j,hj'⟩:=List.getElem?_of_mem hx;have hp:=jc gt j x hj';have hval:x.valid=true:=by simp only [kN,Bool.and_eq_true] at hf;exact hf.1.1
   simp only [dy,Bool.or_eq_true,Bool.and_eq_true] at hp;rcases hp with hp | hp
   ·rw [hval] at hp;simp at hp
   ·exact qS hp.1
  rw [ew] at hr;obtain ⟨c1,c2,c3⟩:=(pA h.mem va 2 _ _ hr).1 hkind;rw [e3,e4,ew];unfold cY;rw [if_neg (by rw [c1];decide),if_neg (by rw [c1];decide),c2,c3]
 ·rw [if_neg hh];simp only;have hres:(aX h.mem h.satp va (cB k.p va (aO h.satp))).1=(bO h.mem h.satp va).1∧(aX h.mem h.satp va (cB k.p va (aO h.satp))).2.1=(bO h.mem h.satp va).2.1∧(aX h.mem h.satp va (cB k.p va (aO h.satp))).2.2.1=(bO h.mem h.satp va).2.2.1∧∀x∈(aX h.mem h.satp va (cB k.p va (aO h.satp))).2.2.2,x∈(bO h.mem h.satp va).2.2.2:=by
   unfold aX;by_cases hu:(cB k.p va (aO h.satp)).1=true
   ·rw [if_pos hu];obtain ⟨x,hx,hf,e3,e4⟩:=BV hu;obtain ⟨ad,hr⟩:=rec_of _ x hc.2.2 hx hf;have hkind:aW x.pte x.level=1:=by
     obtain ⟨j,hj'⟩:=List.getElem?_of_mem hx;have hp:=jc gp j x hj';have hval:x.valid=true:=by simp only [kN,Bool.and_eq_true] at hf;exact hf.1.1
     simp only [dy,Bool.or_eq_true,Bool.and_eq_true] at hp;rcases hp with hp | hp
     ·rw [hval] at hp;simp at hp
     ·exact qS hp.1
    rw [e3,e4];rw [ew] at hr |-;exact (pA h.mem va 2 _ _ hr).2 hkind
   ·rw [if_neg hu];exact ⟨rfl,rfl,rfl,fun x hx=>hx⟩
  have hans:cY (aX h.mem h.satp va (cB k.p va (aO h.satp))) h.mode h.sum h.mxr kind va=cY (bO h.mem h.satp va) h.mode h.sum h.mxr kind va:=by
   unfold cY;rw [hres.1,hres.2.1,hres.2.2.1]
  rw [hans];refine ⟨rfl,?_⟩;have cp:CovT (dt va h.satp pick (aX h.mem h.satp va (cB k.p va (aO h.satp))).2.2.2 k.p) (dU h kind va (bO h.mem h.satp va).2.2.2 gs):=
   CovT.ptrs _ _ (hc.2.2.mono hold) (fun r hr hkd=>hnew r (hres.2.2.2 r hr) (.inl hkd))
  split
  ·rename_i ha;obtain ⟨n2,n3,hg,_⟩:=zd ha;have hcode:(bO h.mem h.satp va).1=1:=by rcases lG h.mem h.satp va with q | q | q <;> omega
   have hlast:∃ad,((bO h.mem h.satp va).2.1,ad,(bO h.mem h.satp va).2.2.1)∈(bO h.mem h.satp va).2.2.2:=by
    rw [ew] at hcode |-;clear ew hres hans cp hnew hold ej hlk hj rec_of ha n2 n3 hg;have:∀(l:Nat) (n:Int),(bD h.mem va l n).1=1->∃ad,((bD h.mem va l n).2.1,ad,(bD h.mem va l n).2.2.1)∈(bD h.mem va l n).2.2.2:=by
     intro l
     induction l with
     | zero=>
      intro n hn;unfold bD at hn |-;split at hn
      ·cases hn
      ·rename_i q1;rw [if_neg q1];split at hn
       ·cases hn
       ·rename_i q2;rw [if_neg q2];split at hn
        ·rename_i q3;rw [if_pos q3];exact ⟨_,List.mem_singleton.2 rfl⟩
        ·cases hn
     | succ l ih=>
      intro n hn;unfold bD at hn |-;split at hn
      ·cases hn
      ·rename_i q1;rw [if_neg q1];split at hn
       ·cases hn
       ·rename_i q2;rw [if_neg q2];split at hn
        ·rename_i q3;rw [if_pos q3];exact ⟨_,List.mem_singleton.2 rfl⟩
        ·rename_i q3;rw [if_neg q3];obtain ⟨ad,hm⟩:=ih _ hn;exact ⟨ad,List.mem_cons_of_mem _ hm⟩
    exact this 2 _ hcode
   obtain ⟨ad,hlast⟩:=hlast;have hgh:∃g∈dU h kind va (bO h.mem h.satp va).2.2.2 gs,zn g (JO (aX h.mem h.satp va (cB k.p va (aO h.satp))).2.1 va h.satp (aX h.mem h.satp va (cB k.p va (aO h.satp))).2.2.1):=by
    rw [hres.2.1,hres.2.2.1];exact ⟨_,hnew _ hlast (.inr hg),tM va h.satp _⟩
   unfold xh;have ci:=(ct.mono hold).insert (pick:=pick) hgh;split
   ·exact ⟨ci,hc.2.1.mono hold,cp⟩
   ·exact ⟨hc.1.mono hold,ci,cp⟩
  ·exact ⟨hc.1.mono hold,hc.2.1.mono hold,cp⟩
end Go.Proofs.YtkenjknmfhoppaaGreat
