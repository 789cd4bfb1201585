import Derived.Test.YtkenjknmfhoppaaGreatSk08
import Derived.Test.YtkenjknmfhoppaaGreatSk10
namespace Go.Proofs.YtkenjknmfhoppaaGreat
open Go.RowKit
set_option linter.unusedVariables false
set_option maxHeartbeats 6400000
set_option maxRecDepth 20000
structure HartM where
 mem:List Int
 regs:List Int
 pc:Int
 mode:Int
 sum:Bool
 mxr:Bool
 satp:Int
 tvec:Int
 epc:Int
 emode:Int
 cause:Int
 tval:Int
 k:KM
structure RunM where
 h:HartM
 cause:Int
 tval:Int
 looks:List (Int × Int)
 fenced:Bool
 fence:FenceM
def fe:FenceM:=⟨false,0,false,0⟩
def dh (satp:Int):Bool:=satp/1152921504606846976%16 == 0 || satp/1152921504606846976%16 == 8
def fh (n:Nat):Bool:=decide (n%64=0∧64<=n∧n<=4096)
def iN (h:HartM):Bool:=
 decide (h.regs.length=8) && (h.regs[0]?.getD 0 == 0) && decide (0<=h.mode∧h.mode<=2) && decide (0<=h.emode∧h.emode<=2) && dh h.satp && (h.tvec%4 == 0) && decide (0<=h.cause∧h.cause<=63)
def gI (h:HartM):Bool:=fh h.mem.length && iN h && bJ h.k
def bu (plain:Bool) (pick:Int) (h:HartM) (kind va:Int):(Int × Int) × KM:=
 if plain=true then (jb h.mem h.mode h.sum h.mxr h.satp kind va,h.k) else cy h.mem h.mode h.sum h.mxr h.satp h.k kind va pick
def withK (h:HartM) (k:KM):HartM:=⟨h.mem,h.regs,h.pc,h.mode,h.sum,h.mxr,h.satp,h.tvec,h.epc,h.emode,h.cause,h.tval,k⟩
def eD (h:HartM) (mem:List Int):HartM:=⟨mem,h.regs,h.pc,h.mode,h.sum,h.mxr,h.satp,h.tvec,h.epc,h.emode,h.cause,h.tval,h.k⟩
def eW (h:HartM) (regs:List Int):HartM:=⟨h.mem,regs,h.pc,h.mode,h.sum,h.mxr,h.satp,h.tvec,h.epc,h.emode,h.cause,h.tval,h.k⟩
def eE (h:HartM) (pc:Int):HartM:=⟨h.mem,h.regs,pc,h.mode,h.sum,h.mxr,h.satp,h.tvec,h.epc,h.emode,h.cause,h.tval,h.k⟩
def bL (r:RunM) (h:HartM):RunM:=⟨h,r.cause,r.tval,r.looks,r.fenced,r.fence⟩
def bY (r:RunM) (cause tval:Int):RunM:=⟨r.h,cause,tval,r.looks,r.fenced,r.fence⟩
def bR (plain:Bool) (pick:Int) (r:RunM) (kind va:Int):RunM:=
 ⟨withK r.h (bu plain pick r.h kind va).2,r.cause,r.tval,r.looks++[(kind,va)],r.fenced,r.fence⟩
abbrev bM:=Int × Int × Int
def cJ (va w:Int):List bM:=
 if 64-va%64<w then [(va,64-va%64,0),((va+(64-va%64))%18446744073709551616,w-(64-va%64),0)] else [(va,w,0)]
def ao (plain:Bool) (pick kind:Int):RunM->List bM->RunM × List bM
 | r,[]=>(r,[])
 | r,p::ps=>
  if (bu plain pick r.h kind p.1).1.1=0 then
   ((ao plain pick kind (bR plain pick r kind p.1) ps).1,(p.1,p.2.1,(bu plain pick r.h kind p.1).1.2)::(ao plain pick kind (bR plain pick r kind p.1) ps).2)
  else (bY (bR plain pick r kind p.1) (bu plain pick r.h kind p.1).1.1 p.1,p::ps)
def gJ (mem:List Int):List bM->Option Int
 | []=>none
 | p::ps=>if fR mem.length p.2.2 p.2.1=true then gJ mem ps else some p.1
def aP (plain:Bool) (pick:Int) (r:RunM) (kind va w:Int):RunM × List bM:=
 if (ao plain pick kind r (cJ va w)).1.cause=0 then
  match gJ (ao plain pick kind r (cJ va w)).1.h.mem (ao plain pick kind r (cJ va w)).2 with
  | none=>ao plain pick kind r (cJ va w)
  | some v=>(bY (ao plain pick kind r (cJ va w)).1 (bP kind) v,(ao plain pick kind r (cJ va w)).2)
 else ao plain pick kind r (cJ va w)
def cE (mem:List Int):List bM->List Int
 | []=>[]
 | p::ps=>(mem.drop p.2.2.toNat).take p.2.1.toNat++cE mem ps
def iZ (mem:List Int) (ps:List bM):Int:=num (cE mem ps)
def ja:List Int->List bM->List Int->List Int
 | mem,[],_=>mem
 | mem,p::ps,b=>ja (put mem p.2.2.toNat (b.take p.2.1.toNat)) ps (b.drop p.2.1.toNat)
def gY (h:HartM) (a:Int):Int:=h.regs[a.toNat]?.getD 0
def cB (r:RunM) (a x:Int):RunM:=bL r (eW r.h (if 0<a then r.h.regs.set a.toNat x else r.h.regs))
def iA (s:Int):Int:=if 128<=s then s-256 else s
def iW (n:Int):Int:=2^n.toNat
def bZ (op c mode:Int):Bool:=
 decide (9<=op∧op<=11∧mode=0) || decide ((op=12∨op=13)∧mode≠2) || decide (op=13∧2<c)
def li (h:HartM) (a b:Int):FenceM:=⟨decide (a≠0),gY h a,decide (b≠0),gY h b%65536⟩
def dD (k:KM) (f:FenceM):KM:=⟨eO k.i f,eO k.d f,eO k.p f⟩
def oz (plain:Bool) (pick:Int) (r:RunM) (ea w a:Int):RunM:=
 if (aP plain pick r 1 ea w).1.cause=0 then cB (aP plain pick r 1 ea w).1 a (iZ (aP plain pick r 1 ea w).1.h.mem (aP plain pick r 1 ea w).2) else (aP plain pick r 1 ea w).1
def dw (t:RunM × List bM) (b:List Int):RunM:=bL t.1 (eD t.1.h (ja t.1.h.mem t.2 b))
def jX (plain:Bool) (pick:Int) (r:RunM) (ea w x:Int):RunM:=
 if (aP plain pick r 2 ea w).1.cause=0 then dw (aP plain pick r 2 ea w) (cL x w.toNat) else (aP plain pick r 2 ea w).1
def tX (plain:Bool) (pick:Int) (r:RunM) (ea a x:Int):RunM:=
 if (aP plain pick r 2 ea 8).1.cause=0 then cB (dw (aP plain pick r 2 ea 8) (cL ((iZ (aP plain pick r 2 ea 8).1.h.mem (aP plain pick r 2 ea 8).2+x)%18446744073709551616) 8)) a (iZ (aP plain pick r 2 ea 8).1.h.mem (aP plain pick r 2 ea 8).2) else (aP plain pick r 2 ea 8).1
def eaM (h:HartM) (b s:Int):Int:=(gY h b+iA s)%18446744073709551616
def doM (plain:Bool) (pick:Int) (r:RunM) (pc op a b c s word:Int):RunM:=
 if bZ op c r.h.mode=true then bY r 2 word
 else if op=1 then cB r a (iA s%18446744073709551616)
 else if op=2 then cB r a ((gY r.h b+gY r.h c)%18446744073709551616)
 else if op=3 then cB r a (eaM r.h b s)
 else if op=4 then cB r a (gY r.h b*iW (s%64)%18446744073709551616)
 else if op=5 then oz plain pick r (eaM r.h b s) (iW (c%4)) a
 else if op=6 then jX plain pick r (eaM r.h b s) (iW (c%4)) (gY r.h a)
 else if op=7 then tX plain pick r (eaM r.h b s) a (gY r.h c)
 else if op=8 then (if gY r.h a=gY r.h b then r else bL r (eE r.h ((pc+4*iA s)%18446744073709551616)))
 else if op=9 then (if dh (gY r.h a)=true then bL r ⟨r.h.mem,r.h.regs,r.h.pc,r.h.mode,r.h.sum,r.h.mxr,gY r.h a,r.h.tvec,r.h.epc,r.h.emode,r.h.cause,r.h.tval,r.h.k⟩ else r)
 else if op=10 then bL r ⟨r.h.mem,r.h.regs,r.h.pc,r.h.mode,bX (gY r.h a) 1,bX (gY r.h a) 2,r.h.satp,r.h.tvec,r.h.epc,r.h.emode,r.h.cause,r.h.tval,r.h.k⟩
 else if op=11 then ⟨if plain=true then r.h else withK r.h (dD r.h.k (li r.h a b)),r.cause,r.tval,r.looks,true,li r.h a b⟩
 else if op=12 then bL r ⟨r.h.mem,r.h.regs,(r.h.epc+4*iA s)%18446744073709551616,r.h.emode,r.h.sum,r.h.mxr,r.h.satp,r.h.tvec,r.h.epc,r.h.emode,r.h.cause,r.h.tval,r.h.k⟩
 else if op=13 then bL r ⟨r.h.mem,r.h.regs,r.h.pc,r.h.mode,r.h.sum,r.h.mxr,r.h.satp,r.h.tvec,gY r.h a,c,r.h.cause,r.h.tval,r.h.k⟩
 else if op=14 then bY r (8+r.h.mode) 0
 else bY r 2 word
def fJ (plain:Bool) (pick:Int) (r:RunM) (op p q s word:Int):RunM:=
 doM plain pick (bL r (eE r.h ((r.h.pc+4)%18446744073709551616))) r.h.pc op (p%8) (p/8%8) (q%8) s word
def be (t:TlbM) (n:Int):TlbM:=⟨t.sets,t.ways,t.es.set (n%t.es.length).toNat cH⟩
def fB (plain:Bool) (pick:Int) (k:KM):KM:=
 if 128<=pick∧plain=false then ⟨be k.i (pick-128),be k.d (pick-128),be k.p (pick-128)⟩ else k
def kC (plain:Bool) (pick:Int) (h:HartM):Int:=rdV h.mem (bu plain pick h 0 h.pc).1.2 4
def kD (plain:Bool) (pick:Int) (r:RunM) (x:Int):RunM:=fJ plain pick r (x%256) (x/256%256) (x/65536%256) (x/16777216) x
def eQ (plain:Bool) (pick:Int) (r:RunM):RunM:=
 if r.h.pc%4=0 then
  if (bu plain pick r.h 0 r.h.pc).1.1=0 then
   if dU r.h.mem.length (bu plain pick r.h 0 r.h.pc).1.2 4=true then kD plain pick (bR plain pick r 0 r.h.pc) (kC plain pick r.h)
   else bY (bR plain pick r 0 r.h.pc) 1 r.h.pc
  else bY (bR plain pick r 0 r.h.pc) (bu plain pick r.h 0 r.h.pc).1.1 r.h.pc
 else bY r 20 r.h.pc
def cK (plain:Bool) (pick:Int) (h:HartM):RunM:=⟨withK h (fB plain pick h.k),0,0,[],false,fe⟩
def dZ (h:HartM) (r:RunM):HartM:=⟨h.mem,h.regs,h.tvec,2,h.sum,h.mxr,h.satp,h.tvec,h.pc,h.mode,r.cause,r.tval,r.h.k⟩
def pU (h:HartM) (r:RunM):RunM:=if r.cause=0 then r else bL r (dZ h r)
def fQ (plain:Bool) (pick:Int) (h:HartM):RunM:=pU h (eQ plain pick (cK plain pick h))
structure EvM where
 pc:Int
 mode:Int
 cause:Int
 tval:Int
def atM (b:List Int) (i:Nat):Int:=b[i]?.getD 0
def cz (b:List Int) (i:Nat):Int:=num ((List.range 8).map fun k=>atM b (i+k))
def ae (y:Int):TlbM:=⟨2^(y%4).toNat,1+y/4%4,List.replicate (2^(y%4).toNat*(1+y/4%4).toNat) cH⟩
def lM (b:List Int):Nat->Nat->Nat->List Int->List Int
 | 0,_,_,mem=>mem
 | m+1,i,a,mem=>lM b m (i+1) (a+1) (if a<mem.length then mem.set a (atM b i) else mem)
def rh (b:List Int) (i:Nat):Nat:=(atM b i+256*atM b (i+1)).toNat
def jc (b:List Int):Nat->Nat->List Int->List Int × Nat
 | 0,i,mem=>(mem,i)
 | n+1,i,mem=>jc b n (i+3+(atM b (i+2)).toNat) (lM b (atM b (i+2)).toNat (i+3) (rh b i) mem)
def bU (y:Int):Int:=if y%4=3 then 1 else y%4
def jJ (b:List Int):Nat:=min (atM b 5+256*atM b 6).toNat 20000
def rx (b:List Int):List Int × Nat:=jc b (atM b 87).toNat 88 (List.replicate (64*(1+(atM b 3%64).toNat)) 0)
def jK (b:List Int):List Int:=0::(List.range 7).map fun r=>cz b (31+8*r)
def fK (b:List Int):HartM:=
 ⟨(rx b).1,jK b,cz b 7,bU (atM b 4),atM b 4/4%2 == 1,atM b 4/8%2 == 1,if dh (cz b 23)=true then cz b 23 else 0,cz b 15/4*4,0,bU (atM b 4),0,0,⟨ae (atM b 0),ae (atM b 1),ae (atM b 2)⟩⟩
def gZ (b:List Int):List Int:=(List.range (jJ b)).map fun k=>atM b ((rx b).2+k)
abbrev it:=Int × Int × Bool × ef
def An (va satp:Int) (r:ef):it:=(gx va r.1,aK satp,bX r.2.2 32,r)
def vW (gs:List it) (f:FenceM):List it:=gs.filter fun g=>!iM f g.2.2.2.1 g.1 g.2.1 g.2.2.1
def Dm (g:it) (e:EntM):Prop:=g.1=e.tag∧g.2.1=e.asid∧g.2.2.1=e.glob∧g.2.2.2.1=e.level∧g.2.2.2.2.2=e.pte
def CovT (t:TlbM) (gs:List it):Prop:=∀e∈t.es,e.valid=true->∃g∈gs,Dm g e
def CovK (k:KM) (gs:List it):Prop:=CovT k.i gs∧CovT k.d gs∧CovT k.p gs
theorem CovT.mono {t:TlbM} {gs gs':List it} (h:CovT t gs) (hs:∀g∈gs,g∈gs'):CovT t gs':=fun e he hv=>by
 obtain ⟨g,hg,hs'⟩:=h e he hv;exact ⟨g,hs g hg,hs'⟩
theorem CovK.mono {k:KM} {gs gs':List it} (h:CovK k gs) (hs:∀g∈gs,g∈gs'):CovK k gs':=⟨h.1.mono hs,h.2.1.mono hs,h.2.2.mono hs⟩
theorem CovT.insert {t:TlbM} {gs:List it} {e:EntM} {pick:Int} (h:CovT t gs) (he:∃g∈gs,Dm g e):CovT (dg t e pick) gs:=by
 unfold dg;split
 ·intro x hx hv;rcases List.mem_or_eq_of_mem_set hx with hx | rfl
  ·exact h x hx hv
  ·exact he
 ·exact h
theorem zA (va satp:Int) (r:ef):Dm (An va satp r) (eU r.1 va satp r.2.2):=⟨rfl,rfl,rfl,rfl,rfl⟩
theorem CovT.ptrs {gs:List it} {va satp pick:Int}:∀(rs:List ef) (p:TlbM),CovT p gs->(∀r∈rs,bH r.2.2 r.1=1->An va satp r∈gs)->CovT (cG va satp pick rs p) gs
 | [],p,h,_=>h
 | r::rs,p,h,hr=>by
  rw [cG];refine CovT.ptrs rs _ ?_ (fun x hx=>hr x (List.mem_cons_of_mem _ hx));split
  ·rename_i hk;exact h.insert ⟨_,hr r (List.mem_cons_self ..) hk,zA va satp r⟩
  ·exact h
theorem CovT.flush {t:TlbM} {gs:List it} {f:FenceM} (h:CovT t gs) (he:gy t=true):CovT (eO t f) (vW gs f):=by
 unfold eO;rw [if_pos he];intro x hx hv;simp only [List.mem_map] at hx;obtain ⟨y,hy,rfl⟩:=hx;unfold cx at hv |-;split at hv
 ·simp [cH] at hv
 ·rename_i hc;rw [if_neg hc];obtain ⟨g,hg,h1,h2,h3,h4,h5⟩:=h y hy hv;refine ⟨g,?_,h1,h2,h3,h4,h5⟩;simp only [vW,List.mem_filter,h1,h2,h3,h4,Bool.not_eq_true'];refine ⟨hg,?_⟩;simp only [hv,Bool.true_and,Bool.not_eq_true] at hc;exact hc
theorem CovT.evict {t:TlbM} {gs:List it} {n:Int} (h:CovT t gs):CovT (be t n) gs:=by
 intro x hx hv;rcases List.mem_or_eq_of_mem_set hx with hx | rfl
 ·exact h x hx hv
 ·simp [cH] at hv
theorem CovK.evict {k:KM} {gs:List it} {plain:Bool} {pick:Int} (h:CovK k gs):CovK (fB plain pick k) gs:=by
 unfold fB;split
 ·exact ⟨h.1.evict,h.2.1.evict,h.2.2.evict⟩
 ·exact h
theorem mu (t:TlbM) (n:Int) (p:Bool) (hv:aR t p=true):aR (be t n) p=true:=by
 have hs:=fI hv;refine ti ?_ ?_
 ·simp only [jA,be,decide_eq_true_eq,List.length_set];exact hs
 ·intro j x hx;simp only [be,List.getElem?_set] at hx;split at hx
  ·split at hx
   ·cases hx;simp [cD,cH]
   ·cases hx
  ·exact kB hv j x hx
theorem zB (plain:Bool) (pick:Int) (k:KM) (h:bJ k=true):bJ (fB plain pick k)=true:=by
 unfold fB;split
 ·simp only [bJ,Bool.and_eq_true] at h |-;exact ⟨⟨mu _ _ _ h.1.1,mu _ _ _ h.1.2⟩,mu _ _ _ h.2⟩
 ·exact h
theorem yj (k:KM) (f:FenceM) (h:bJ k=true):bJ (dD k f)=true:=by
 simp only [bJ,dD,Bool.and_eq_true] at h |-;exact ⟨⟨mA _ _ _ h.1.1,mA _ _ _ h.1.2⟩,mA _ _ _ h.2⟩
theorem CovK.flush {k:KM} {gs:List it} {f:FenceM} (h:CovK k gs) (hk:bJ k=true):CovK (dD k f) (vW gs f):=by
 simp only [bJ,Bool.and_eq_true] at hk;exact ⟨h.1.flush (ee hk.1.1),h.2.1.flush (ee hk.1.2),h.2.2.flush (ee hk.2)⟩
def iJ (zs:List Int):Prop:=∀i:Nat,0<=zs[i]?.getD 0∧zs[i]?.getD 0<=255
def rX (zs:List Int):Prop:=∀i:Nat,0<=zs[i]?.getD 0∧zs[i]?.getD 0<=18446744073709551615
def inU (x:Int):Prop:=0<=x∧x<=18446744073709551615
def kOk (k:KM):Prop:=fP k.i∧fP k.d∧fP k.p
structure HOk (h:HartM):Prop where
 valid:gI h=true
 mem:iJ h.mem
 regs:rX h.regs
 pc:inU h.pc
 satp:inU h.satp
 tvec:inU h.tvec
 epc:inU h.epc
 tval:inU h.tval
 ks:kOk h.k
structure ROk (r:RunM):Prop where
 h:HOk r.h
 cause:0<=r.cause∧r.cause<=63
 tval:inU r.tval
 looks:∀l∈r.looks,(0<=l.1∧l.1<=2)∧inU l.2
 fva:inU r.fence.va
 fas:inU r.fence.asid
structure VH (h:HartM):Prop where
 size:fh h.mem.length=true
 regs:h.regs.length=8
 zero:h.regs[0]?.getD 0=0
 mode:0<=h.mode∧h.mode<=2
 emode:0<=h.emode∧h.emode<=2
 satp:dh h.satp=true
 tvec:h.tvec%4=0
 cause:0<=h.cause∧h.cause<=63
 ks:bJ h.k=true
theorem ec (h:HartM):gI h=true↔VH h:=by
 simp only [gI,iN,Bool.and_eq_true,decide_eq_true_eq,beq_iff_eq];constructor
 ·rintro ⟨⟨a,⟨⟨⟨⟨⟨⟨b,c⟩,d⟩,e⟩,f⟩,g⟩,i⟩⟩,j⟩;exact ⟨a,b,c,d,e,f,g,i,j⟩
 ·rintro ⟨a,b,c,d,e,f,g,i,j⟩;exact ⟨⟨a,⟨⟨⟨⟨⟨⟨b,c⟩,d⟩,e⟩,f⟩,g⟩,i⟩⟩,j⟩
theorem HOk.v {h:HartM} (k:HOk h):VH h:=(ec h).1 k.valid
theorem ic {n:Nat} (h:fh n=true):n%64=0∧64<=n∧n<=4096:=by simpa [fh] using h
theorem Ck (pte level va:Int):inU (gM pte level va):=by
 have hp:0<=dI pte∧dI pte<17592186044416:=by unfold dI;omega
 unfold gM iu inU;split
 ·omega
 ·split
  ·omega
  ·split <;> omega
theorem rY (kind:Int):0<=eR kind∧eR kind<=63:=by unfold eR;split;omega;split <;> omega
theorem rZ (kind:Int):0<=bP kind∧bP kind<=63:=by unfold bP;split;omega;split <;> omega
theorem wN (pte level mode:Int) (sum mxr:Bool) (kind va:Int):(0<=(ft pte level mode sum mxr kind va).1∧(ft pte level mode sum mxr kind va).1<=63)∧inU (ft pte level mode sum mxr kind va).2:=by
 unfold ft;split
 ·exact ⟨⟨by simp,by simp⟩,Ck _ _ _⟩
 ·exact ⟨rY kind,by simp [inU]⟩
theorem sa (r:Int × Int × Int × List ef) (mode:Int) (sum mxr:Bool) (kind va:Int):(0<=(db r mode sum mxr kind va).1∧(db r mode sum mxr kind va).1<=63)∧inU (db r mode sum mxr kind va).2:=by
 unfold db;split
 ·exact ⟨rY kind,by simp [inU]⟩
 ·split
  ·exact ⟨rZ kind,by simp [inU]⟩
  ·exact wN _ _ _ _ _ _ _
theorem AM (zs:List Int) (mode:Int) (sum mxr:Bool) (satp kind va:Int) (hv:inU va):(0<=(jb zs mode sum mxr satp kind va).1∧(jb zs mode sum mxr satp kind va).1<=63)∧inU (jb zs mode sum mxr satp kind va).2:=by
 unfold jb;split
 ·exact ⟨⟨by simp,by simp⟩,by simp [inU]⟩
 ·split
  ·exact ⟨⟨by simp,by simp⟩,hv⟩
  ·exact sa _ _ _ _ _ _
theorem wO (zs:List Int) (mode:Int) (sum mxr:Bool) (satp:Int) (k:KM) (kind va pick:Int) (hz:iJ zs) (hk:kOk k) (hv:inU va):
 kOk (cy zs mode sum mxr satp k kind va pick).2∧(0<=(cy zs mode sum mxr satp k kind va pick).1.1∧(cy zs mode sum mxr satp k kind va pick).1.1<=63)∧inU (cy zs mode sum mxr satp k kind va pick).1.2:=by
 unfold cy;by_cases hb:bJ k=false∨kind<0∨2<kind∨mode<0∨2<mode∨pick<0∨255<pick
 ·rw [if_pos hb];have h0:fP eC:=⟨fun e he=>absurd he (by simp [eC]),by simp [eC],by simp [eC],by simp [eC]⟩;exact ⟨⟨h0,h0,h0⟩,⟨by simp,by simp⟩,by simp [inU]⟩
 ·rw [if_neg hb];have hg:bJ k=true:=by
   cases hh:bJ k
   ·exact absurd (.inl hh) hb
   ·rfl
  split
  ·exact ⟨hk,⟨by simp,by simp⟩,hv⟩
  ·split
   ·exact ⟨hk,rY kind,by simp [inU]⟩
   ·split
    ·have:=wN (aY (eV k kind) va (aK satp)).2.2.2 (aY (eV k kind) va (aK satp)).2.2.1 mode sum mxr kind va;exact ⟨hk,this.1,this.2⟩
    ·simp only;have hgp:aR k.p true=true:=by simp only [bJ,Bool.and_eq_true] at hg;exact hg.2
     obtain ⟨_,_,hl⟩:=pP zs satp va k.p (aK satp) hgp hk.2.2.1 hz;have ha:=sa (aW zs satp va (aY k.p va (aK satp))) mode sum mxr kind va;have hp:=vx va satp pick _ k.p hk.2.2 hl.recs;refine ⟨?_,ha.1,ha.2⟩;have ht:fP (eV k kind):=by unfold eV;split;exact hk.1;exact hk.2.1
     have hi:=ut pick ht (rF (aW zs satp va (aY k.p va (aK satp))).2.1 va satp (aW zs satp va (aY k.p va (aK satp))).2.2.1 hl.level hl.pte);split
     ·unfold th;split
      ·exact ⟨hi,hk.2.1,hp⟩
      ·exact ⟨hk.1,hi,hp⟩
     ·exact ⟨hk.1,hk.2.1,hp⟩
theorem iC {h:HartM} (hh:HOk h) (plain:Bool) {pick kind va:Int} (hp:0<=pick∧pick<=255) (hk:0<=kind∧kind<=2) (hv:inU va):
 HOk (withK h (bu plain pick h kind va).2)∧(0<=(bu plain pick h kind va).1.1∧(bu plain pick h kind va).1.1<=63)∧inU (bu plain pick h kind va).1.2:=by
 have v:=hh.v;cases plain
 ·have e:bu false pick h kind va=cy h.mem h.mode h.sum h.mxr h.satp h.k kind va pick:=rfl;rw [e];obtain ⟨t1,t2,t3⟩:=wO h.mem h.mode h.sum h.mxr h.satp h.k kind va pick hh.mem hh.ks hv;have tg:=zF h.mem h.mode h.sum h.mxr h.satp h.k kind va pick v.ks hk v.mode hp;refine ⟨⟨(ec _).2 ⟨v.size,v.regs,v.zero,v.mode,v.emode,v.satp,v.tvec,v.cause,tg⟩,hh.mem,hh.regs,hh.pc,hh.satp,hh.tvec,hh.epc,hh.tval,t1⟩,t2,t3⟩
 ·have e:bu true pick h kind va=(jb h.mem h.mode h.sum h.mxr h.satp kind va,h.k):=rfl;rw [e];have:=AM h.mem h.mode h.sum h.mxr h.satp kind va hv;exact ⟨hh,this.1,this.2⟩
theorem kf {r:RunM} (hr:ROk r) (plain:Bool) {pick kind va:Int} (hp:0<=pick∧pick<=255) (hk:0<=kind∧kind<=2) (hv:inU va):ROk (bR plain pick r kind va):=by
 refine ⟨(iC hr.h plain hp hk hv).1,hr.cause,hr.tval,?_,hr.fva,hr.fas⟩;intro l hl;rcases List.mem_append.1 hl with hl | hl
 ·exact hr.looks l hl
 ·rw [List.mem_singleton] at hl;subst hl;exact ⟨hk,hv⟩
theorem iQ {r:RunM} (hr:ROk r) {c t:Int} (hc:0<=c∧c<=63) (ht:inU t):ROk (bY r c t):=⟨hr.h,hc,ht,hr.looks,hr.fva,hr.fas⟩
def ep (ps:List bM):Prop:=∀p∈ps,inU p.1∧(1<=p.2.1∧p.2.1<=8)∧inU p.2.2
theorem sd (va w:Int) (hv:inU va) (hw:1<=w∧w<=8):ep (cJ va w):=by
 unfold inU at hv;unfold cJ;split
 ·intro p hp;simp only [List.mem_cons,List.not_mem_nil,or_false] at hp;rcases hp with rfl | rfl
  ·exact ⟨hv,by simp only;omega,by simp [inU]⟩
  ·exact ⟨by simp only [inU];omega,by simp only;omega,by simp [inU]⟩
 ·intro p hp;simp only [List.mem_singleton] at hp;subst hp;exact ⟨hv,hw,by simp [inU]⟩
theorem fV (plain:Bool) {pick kind:Int} (hp:0<=pick∧pick<=255) (hk:0<=kind∧kind<=2):∀(ps:List bM) (r:RunM),ROk r->ep ps->ROk (ao plain pick kind r ps).1∧ep (ao plain pick kind r ps).2
 | [],r,hr,hs=>⟨hr,hs⟩
 | p::ps,r,hr,hs=>by
  have h1:=hs p (List.mem_cons_self ..);have hl:=kf hr plain hp hk h1.1;have ht:=iC hr.h plain hp hk h1.1;rw [ao];split
  ·have:=fV plain hp hk ps _ hl (fun q hq=>hs q (List.mem_cons_of_mem _ hq));refine ⟨this.1,fun q hq=>?_⟩;rcases List.mem_cons.1 hq with rfl | hq
   ·exact ⟨h1.1,h1.2.1,ht.2.2⟩
   ·exact this.2 q hq
  ·exact ⟨iQ hl ht.2.1 h1.1,hs⟩
theorem wP {mem:List Int}:∀{ps:List bM} {v:Int},gJ mem ps=some v->∃p∈ps,p.1=v
 | p::ps,v,h=>by
  rw [gJ] at h;split at h
  ·obtain ⟨q,hq,e⟩:=wP h;exact ⟨q,List.mem_cons_of_mem _ hq,e⟩
  ·cases h;exact ⟨p,List.mem_cons_self ..,rfl⟩
theorem jr (plain:Bool) {pick kind va w:Int} {r:RunM} (hp:0<=pick∧pick<=255) (hk:0<=kind∧kind<=2) (hv:inU va) (hw:1<=w∧w<=8) (hr:ROk r):ROk (aP plain pick r kind va w).1∧ep (aP plain pick r kind va w).2:=by
 have:=fV plain hp hk (cJ va w) r hr (sd va w hv hw);unfold aP;generalize ao plain pick kind r (cJ va w)=z at this |-;split
 ·split
  ·exact this
  ·rename_i v ho;obtain ⟨p,hp',e⟩:=wP ho;exact ⟨iQ this.1 (rZ kind) (by rw [<-e];exact (this.2 p hp').1),this.2⟩
 ·exact this
theorem Cl {zs:List Int} (h:rX zs) (n:Nat) {x:Int} (hx:inU x):rX (zs.set n x):=by
 intro i;rw [List.getElem?_set];split
 ·split
  ·exact hx
  ·simp
 ·exact h i
theorem Fh {h:HartM} (hr:rX h.regs) (a:Int):inU (gY h a):=hr a.toNat
theorem iD {r:RunM} (hr:ROk r) (a:Int) {x:Int} (hx:inU x):ROk (cB r a x):=by
 have v:=hr.h.v;unfold cB;by_cases ha:0<a
 ·rw [if_pos ha];refine ⟨⟨(ec _).2 ⟨v.size,by simp [bL,eW,v.regs],?_,v.mode,v.emode,v.satp,v.tvec,v.cause,v.ks⟩,hr.h.mem,Cl hr.h.regs _ hx,hr.h.pc,hr.h.satp,hr.h.tvec,hr.h.epc,hr.h.tval,hr.h.ks⟩,hr.cause,hr.tval,hr.looks,hr.fva,hr.fas⟩;show (r.h.regs.set a.toNat x)[0]?.getD 0=0;rw [List.getElem?_set_ne (by omega)];exact v.zero
 ·rw [if_neg ha];exact hr
theorem DY {r:RunM} (hr:ROk r) {m:List Int} (hl:m.length=r.h.mem.length) (hm:iJ m):ROk (bL r (eD r.h m)):=by
 have v:=hr.h.v;exact ⟨⟨(ec _).2 ⟨by show fh m.length=true;rw [hl];exact v.size,v.regs,v.zero,v.mode,v.emode,v.satp,v.tvec,v.cause,v.ks⟩,hm,hr.h.regs,hr.h.pc,hr.h.satp,hr.h.tvec,hr.h.epc,hr.h.tval,hr.h.ks⟩,hr.cause,hr.tval,hr.looks,hr.fva,hr.fas⟩
theorem AN {zs ys:List Int} {k:Nat} (h:iJ zs) (hy:∀y∈ys,0<=y∧y<=255):iJ (put zs k ys):=by
 refine df fun z hz=>?_;unfold put at hz;rw [List.append_assoc,List.mem_append,List.mem_append] at hz;rcases hz with hz | hz | hz
 ·exact dP h z (List.mem_of_mem_take hz)
 ·exact hy z hz
 ·exact dP h z (List.mem_of_mem_drop hz)
theorem wQ {mem:List Int}:∀{ps:List bM},gJ mem ps=none->∀p∈ps,fR mem.length p.2.2 p.2.1=true
 | p::ps,h,q,hq=>by
  rw [gJ] at h;split at h
  ·rcases List.mem_cons.1 hq with rfl | hq
   ·assumption
   ·exact wQ h q hq
  ·cases h
theorem lU {plain:Bool} {pick kind va w:Int} {r:RunM} (h0:(aP plain pick r kind va w).1.cause=0):∀p∈(aP plain pick r kind va w).2,fR (aP plain pick r kind va w).1.h.mem.length p.2.2 p.2.1=true:=by
 unfold aP at h0 |-;generalize ao plain pick kind r (cJ va w)=z at h0 |-;by_cases hc:z.1.cause=0
 ·rw [if_pos hc] at h0 |-;cases ho:gJ z.1.h.mem z.2 with
  | none=>
   exact wQ ho
  | some v=>
   rw [ho] at h0;exact absurd h0 (jF kind)
 ·rw [if_neg hc] at h0;exact absurd h0 hc
theorem Cm:∀(ps:List bM) (mem b:List Int),iJ mem->(∀y∈b,0<=y∧y<=255)->(∀p∈ps,fR mem.length p.2.2 p.2.1=true)->ep ps->(ja mem ps b).length=mem.length∧iJ (ja mem ps b)
 | [],mem,b,hm,hb,hi,hs=>⟨rfl,hm⟩
 | p::ps,mem,b,hm,hb,hi,hs=>by
  have h1:=hi p (List.mem_cons_self ..);have h2:=(hs p (List.mem_cons_self ..)).2;simp only [fR,decide_eq_true_eq] at h1;obtain ⟨h21,h22⟩:=h2;unfold inU at h22;have hl:(put mem p.2.2.toNat (b.take p.2.1.toNat)).length=mem.length:=Aa mem _ _ (by rw [List.length_take];omega);rw [ja];have:=Cm ps (put mem p.2.2.toNat (b.take p.2.1.toNat)) (b.drop p.2.1.toNat) (AN hm fun y hy=>hb y (List.mem_of_mem_take hy)) (fun y hy=>hb y (List.mem_of_mem_drop hy)) (fun q hq=>by rw [hl];exact hi q (List.mem_cons_of_mem _ hq)) (fun q hq=>hs q (List.mem_cons_of_mem _ hq));rw [hl] at this;exact this
theorem jd {mem:List Int} (hm:iJ mem):∀(ps:List bM),∀z∈cE mem ps,0<=z∧z<=255
 | p::ps,z,hz=>by
  rw [cE,List.mem_append] at hz;rcases hz with hz | hz
  ·exact dP hm z (List.mem_of_mem_drop (List.mem_of_mem_take hz))
  ·exact jd hm ps z hz
def iR:List bM->Int
 | []=>0
 | p::ps=>p.2.1+iR ps
theorem jT (mem:List Int):∀(ps:List bM),ep ps->((cE mem ps).length:Int)<=iR ps
 | [],_=>by simp [cE,iR]
 | p::ps,h=>by
  have h1:=(h p (List.mem_cons_self ..)).2.1;have:=jT mem ps fun q hq=>h q (List.mem_cons_of_mem _ hq);rw [cE,iR,List.length_append,List.length_take];omega
theorem lV (plain:Bool) (pick kind:Int):∀(ps:List bM) (r:RunM),iR (ao plain pick kind r ps).2=iR ps
 | [],r=>rfl
 | p::ps,r=>by
  rw [ao];split
  ·rw [iR,iR,lV plain pick kind ps _]
  ·rfl
theorem kg (plain:Bool) (pick kind va w:Int) (r:RunM):iR (aP plain pick r kind va w).2=w:=by
 have hc:iR (cJ va w)=w:=by
  unfold cJ;split <;> simp only [iR] <;> omega
 have:=lV plain pick kind (cJ va w) r;unfold aP;generalize ao plain pick kind r (cJ va w)=z at this |-;split
 ·split <;> (rw [this,hc])
 ·rw [this,hc]
theorem Cn {mem:List Int} (hm:iJ mem) {ps:List bM} (hs:ep ps) (hl:iR ps<=8):inU (iZ mem ps):=by
 have h1:=jT mem ps hs;have:=lX (cE mem ps) 8 (jd hm ps) (by omega);unfold iZ inU;have e:(256:Int)^8=18446744073709551616:=by decide
 omega
theorem fu (x:Int):inU (x%18446744073709551616):=by unfold inU;omega
theorem se {t:RunM × List bM} (hr:ROk t.1) (hs:ep t.2) (hi:∀p∈t.2,fR t.1.h.mem.length p.2.2 p.2.1=true) (x:Int) (n:Nat):ROk (dw t (cL x n)):=by
 have:=Cm t.2 t.1.h.mem (cL x n) hr.h.mem (kL n x) hi hs;exact DY hr this.1 this.2
theorem mJ (c:Int) (hc:0<=c):1<=iW (c%4)∧iW (c%4)<=8:=by
 unfold iW;rcases (show c%4=0∨c%4=1∨c%4=2∨c%4=3 by omega) with h | h | h | h <;> rw [h] <;> decide
theorem Co (plain:Bool) {pick ea w a:Int} {r:RunM} (hp:0<=pick∧pick<=255) (hv:inU ea) (hw:1<=w∧w<=8) (hr:ROk r):ROk (oz plain pick r ea w a):=by
 obtain ⟨h1,h2⟩:=jr plain hp (kind:=1) (by omega) hv hw hr;have h3:=kg plain pick 1 ea w r;unfold oz;generalize aP plain pick r 1 ea w=z at h1 h2 h3 |-;split
 ·exact iD h1 a (Cn h1.h.mem h2 (by omega))
 ·exact h1
theorem AO (plain:Bool) {pick ea w x:Int} {r:RunM} (hp:0<=pick∧pick<=255) (hv:inU ea) (hw:1<=w∧w<=8) (hr:ROk r):ROk (jX plain pick r ea w x):=by
 obtain ⟨h1,h2⟩:=jr plain hp (kind:=2) (by omega) hv hw hr;have h4:=@lU plain pick 2 ea w r;unfold jX;generalize aP plain pick r 2 ea w=z at h1 h2 h4 |-;split
 ·rename_i h0;exact se h1 h2 (h4 h0) _ _
 ·exact h1
theorem DZ (plain:Bool) {pick ea a x:Int} {r:RunM} (hp:0<=pick∧pick<=255) (hv:inU ea) (hr:ROk r):ROk (tX plain pick r ea a x):=by
 obtain ⟨h1,h2⟩:=jr plain hp (kind:=2) (by omega) hv (w:=8) (by omega) hr;have h3:=kg plain pick 2 ea 8 r;have h4:=@lU plain pick 2 ea 8 r;unfold tX;generalize aP plain pick r 2 ea 8=z at h1 h2 h3 h4 |-;split
 ·rename_i h0;exact iD (se h1 h2 (h4 h0) _ _) a (Cn h1.h.mem h2 (by omega))
 ·exact h1
theorem ki {t:TlbM} {f:FenceM} (h:fP t):fP (eO t f):=by
 unfold eO;split
 ·refine ⟨fun e he=>?_,h.2.1,h.2.2.1,by simpa using h.2.2.2⟩;simp only [List.mem_map] at he;obtain ⟨y,hy,rfl⟩:=he;unfold cx;split
  ·simp [fq,cH]
  ·exact h.1 y hy
 ·exact h
theorem Fi (plain:Bool) {pick pc op a b c s word:Int} {r:RunM} (hp:0<=pick∧pick<=255) (hc:0<=c) (hw:inU word) (hr:ROk r):ROk (doM plain pick r pc op a b c s word):=by
 have v:=hr.h.v;have rg:=fun x=>Fh hr.h.regs x;have hea:inU (eaM r.h b s):=fu _;unfold doM;by_cases hi:bZ op c r.h.mode=true
 ·rw [if_pos hi];exact iQ hr (by omega) hw
 rw [if_neg hi];by_cases o1:op=1
 ·rw [if_pos o1];exact iD hr _ (fu _)
 rw [if_neg o1];by_cases o2:op=2
 ·rw [if_pos o2];exact iD hr _ (fu _)
 rw [if_neg o2];by_cases o3:op=3
 ·rw [if_pos o3];exact iD hr _ hea
 rw [if_neg o3];by_cases o4:op=4
 ·rw [if_pos o4];exact iD hr _ (fu _)
 rw [if_neg o4];by_cases o5:op=5
 ·rw [if_pos o5];exact Co plain hp hea (mJ c hc) hr
 rw [if_neg o5];by_cases o6:op=6
 ·rw [if_pos o6];exact AO plain hp hea (mJ c hc) hr
 rw [if_neg o6];by_cases o7:op=7
 ·rw [if_pos o7];exact DZ plain hp hea hr
 rw [if_neg o7];by_cases o8:op=8
 ·rw [if_pos o8];split
  ·exact hr
  ·exact ⟨⟨(ec _).2 ⟨v.size,v.regs,v.zero,v.mode,v.emode,v.satp,v.tvec,v.cause,v.ks⟩,hr.h.mem,hr.h.regs,fu _,hr.h.satp,hr.h.tvec,hr.h.epc,hr.h.tval,hr.h.ks⟩,hr.cause,hr.tval,hr.looks,hr.fva,hr.fas⟩
 rw [if_neg o8];by_cases o9:op=9
 ·rw [if_pos o9];split
  ·rename_i hs;exact ⟨⟨(ec _).2 ⟨v.size,v.regs,v.zero,v.mode,v.emode,hs,v.tvec,v.cause,v.ks⟩,hr.h.mem,hr.h.regs,hr.h.pc,rg a,hr.h.tvec,hr.h.epc,hr.h.tval,hr.h.ks⟩,hr.cause,hr.tval,hr.looks,hr.fva,hr.fas⟩
  ·exact hr
 rw [if_neg o9];by_cases o10:op=10
 ·rw [if_pos o10];exact ⟨⟨(ec _).2 ⟨v.size,v.regs,v.zero,v.mode,v.emode,v.satp,v.tvec,v.cause,v.ks⟩,hr.h.mem,hr.h.regs,hr.h.pc,hr.h.satp,hr.h.tvec,hr.h.epc,hr.h.tval,hr.h.ks⟩,hr.cause,hr.tval,hr.looks,hr.fva,hr.fas⟩
 rw [if_neg o10];by_cases o11:op=11
 ·rw [if_pos o11];have rb:=rg b;have hfas:inU (li r.h a b).asid:=by unfold inU at rb |-;show 0<=gY r.h b%65536∧gY r.h b%65536<=_;omega
  cases plain
  ·exact ⟨⟨(ec _).2 ⟨v.size,v.regs,v.zero,v.mode,v.emode,v.satp,v.tvec,v.cause,yj _ _ v.ks⟩,hr.h.mem,hr.h.regs,hr.h.pc,hr.h.satp,hr.h.tvec,hr.h.epc,hr.h.tval,ki hr.h.ks.1,ki hr.h.ks.2.1,ki hr.h.ks.2.2⟩,hr.cause,hr.tval,hr.looks,rg a,hfas⟩
  ·exact ⟨hr.h,hr.cause,hr.tval,hr.looks,rg a,hfas⟩
 rw [if_neg o11];by_cases o12:op=12
 ·rw [if_pos o12];exact ⟨⟨(ec _).2 ⟨v.size,v.regs,v.zero,v.emode,v.emode,v.satp,v.tvec,v.cause,v.ks⟩,hr.h.mem,hr.h.regs,fu _,hr.h.satp,hr.h.tvec,hr.h.epc,hr.h.tval,hr.h.ks⟩,hr.cause,hr.tval,hr.looks,hr.fva,hr.fas⟩
 rw [if_neg o12];by_cases o13:op=13
 ·rw [if_pos o13];have hc2:c<=2:=by
   simp only [bZ,Bool.or_eq_true,decide_eq_true_eq,not_or] at hi;omega
  exact ⟨⟨(ec _).2 ⟨v.size,v.regs,v.zero,v.mode,⟨hc,hc2⟩,v.satp,v.tvec,v.cause,v.ks⟩,hr.h.mem,hr.h.regs,hr.h.pc,hr.h.satp,hr.h.tvec,rg a,hr.h.tval,hr.h.ks⟩,hr.cause,hr.tval,hr.looks,hr.fva,hr.fas⟩
 rw [if_neg o13];have hmd:=v.mode;by_cases o14:op=14
 ·rw [if_pos o14];exact iQ hr (by omega) (by simp [inU])
 rw [if_neg o14];exact iQ hr (by omega) hw
theorem sf {r:RunM} (hr:ROk r):ROk (bL r (eE r.h ((r.h.pc+4)%18446744073709551616))):=by
 have v:=hr.h.v;exact ⟨⟨(ec _).2 ⟨v.size,v.regs,v.zero,v.mode,v.emode,v.satp,v.tvec,v.cause,v.ks⟩,hr.h.mem,hr.h.regs,fu _,hr.h.satp,hr.h.tvec,hr.h.epc,hr.h.tval,hr.h.ks⟩,hr.cause,hr.tval,hr.looks,hr.fva,hr.fas⟩
theorem D7 (plain:Bool) {pick x:Int} {r:RunM} (hp:0<=pick∧pick<=255) (hx:inU x) (hr:ROk r):ROk (kD plain pick r x):=by
 have hr':=sf hr;unfold kD fJ;generalize bL r (eE r.h ((r.h.pc+4)%18446744073709551616))=y at hr' |-;exact Fi plain hp (by omega) hx hr'
theorem wS (plain:Bool) {pick:Int} {r:RunM} (hp:0<=pick∧pick<=255) (hr:ROk r):ROk (eQ plain pick r):=by
 have ht:=iC hr.h plain hp (kind:=0) (by omega) hr.h.pc;have hl:=kf hr plain hp (kind:=0) (by omega) hr.h.pc;have hx:inU (kC plain pick r.h):=oL _ _ 4 (by omega) hr.h.mem;unfold eQ;generalize bR plain pick r 0 r.h.pc=z at hl |-;split
 ·split
  ·split
   ·exact D7 plain hp hx hl
   ·exact iQ hl (by omega) hr.h.pc
  ·exact iQ hl ht.2.1 hr.h.pc
 ·exact iQ hr (by omega) hr.h.pc
theorem kj {t:TlbM} {n:Int} (h:fP t):fP (be t n):=by
 refine ⟨fun e he=>?_,h.2.1,h.2.2.1,by simpa [be] using h.2.2.2⟩;rcases List.mem_or_eq_of_mem_set he with he | rfl
 ·exact h.1 e he
 ·simp [fq,cH]
theorem mK (plain:Bool) (pick:Int) {h:HartM} (hh:HOk h):ROk (cK plain pick h):=by
 have v:=hh.v;refine ⟨⟨(ec _).2 ⟨v.size,v.regs,v.zero,v.mode,v.emode,v.satp,v.tvec,v.cause,zB plain pick _ v.ks⟩,hh.mem,hh.regs,hh.pc,hh.satp,hh.tvec,hh.epc,hh.tval,?_⟩,⟨by simp [cK],by simp [cK]⟩,by simp [cK,inU],fun l hl=>by simp [cK] at hl,by simp [cK,fe,inU],by simp [cK,fe,inU]⟩;show kOk (fB plain pick h.k);unfold fB;split
 ·exact ⟨kj hh.ks.1,kj hh.ks.2.1,kj hh.ks.2.2⟩
 ·exact hh.ks
theorem wT (plain:Bool) {pick:Int} {h:HartM} (hp:0<=pick∧pick<=255) (hh:HOk h):ROk (fQ plain pick h):=by
 have hb:=wS plain hp (mK plain pick hh);have v:=hh.v;have vb:=hb.h.v;unfold fQ pU;generalize eQ plain pick (cK plain pick h)=z at hb vb |-;split
 ·exact hb
 ·exact ⟨⟨(ec _).2 ⟨v.size,v.regs,v.zero,by simp [bL,dZ],v.mode,v.satp,v.tvec,hb.cause,vb.ks⟩,hh.mem,hh.regs,hh.tvec,hh.satp,hh.tvec,hh.pc,hb.tval,hb.h.ks⟩,hb.cause,hb.tval,hb.looks,hb.fva,hb.fas⟩
structure PtrM where
 am:Option Addr
 cm:Nat
 ar:Option Addr
 cr:Nat
 a1:Option Addr
 c1:Nat
 a2:Option Addr
 c2:Nat
 a3:Option Addr
 c3:Nat
def kA (p:PtrM) (k:KM):Array Value:=#[VI k.i.sets,VI k.i.ways,.slice p.a1 k.i.es.length p.c1,VI k.d.sets,VI k.d.ways,.slice p.a2 k.d.es.length p.c2,VI k.p.sets,VI k.p.ways,.slice p.a3 k.p.es.length p.c3]
def ak (p:PtrM) (h:HartM):Array Value:=#[.slice p.am h.mem.length p.cm,.slice p.ar h.regs.length p.cr,VU h.pc,VI h.mode,.bool h.sum,.bool h.mxr,VU h.satp,VU h.tvec,VU h.epc,VI h.emode,VI h.cause,VU h.tval,
 VI h.k.i.sets,VI h.k.i.ways,.slice p.a1 h.k.i.es.length p.c1,VI h.k.d.sets,VI h.k.d.ways,.slice p.a2 h.k.d.es.length p.c2,VI h.k.p.sets,VI h.k.p.ways,.slice p.a3 h.k.p.es.length p.c3]
def aM (p:PtrM) (al:Option Addr) (cl:Nat) (plain:Bool) (pick:Int) (r:RunM):Array Value:=#[.slice p.am r.h.mem.length p.cm,.slice p.ar r.h.regs.length p.cr,VU r.h.pc,VI r.h.mode,.bool r.h.sum,.bool r.h.mxr,VU r.h.satp,VU r.h.tvec,VU r.h.epc,VI r.h.emode,VI r.h.cause,VU r.h.tval,
 VI r.h.k.i.sets,VI r.h.k.i.ways,.slice p.a1 r.h.k.i.es.length p.c1,VI r.h.k.d.sets,VI r.h.k.d.ways,.slice p.a2 r.h.k.d.es.length p.c2,VI r.h.k.p.sets,VI r.h.k.p.ways,.slice p.a3 r.h.k.p.es.length p.c3,
 .bool plain,VI pick,VI r.cause,VU r.tval,.slice al r.looks.length cl,.bool r.fenced,.bool r.fence.hasVa,VU r.fence.va,.bool r.fence.hasAsid,VU r.fence.asid]
def fj:List (Int × Int)->List Value
 | []=>[]
 | l::ls=>.int .i64 l.1::.int .u64 l.2::fj ls
def cF (zs:List Int):List Value:=zs.map (Value.int .u64)
def aV (p:PtrM):List (Option Addr):=[p.am,p.ar,p.a1,p.a2,p.a3]
def From (B:Nat) (p p':PtrM):Prop:=∀q,some q∈aV p'->some q∈aV p∨B<=q.block
def FromL (B:Nat) (al al':Option Addr):Prop:=∀q,al'=some q->al=some q∨B<=q.block
structure HartIn (w:World) (p:PtrM) (h:HartM):Prop where
 mem:Byt w p.am h.mem.length h.mem
 memc:h.mem.length<=p.cm∧p.cm<=9223372036854775807
 regs:RowC w p.ar h.regs.length 1 (cF h.regs)
 regc:h.regs.length<=p.cr∧p.cr<=9223372036854775807
 rega:(p.ar=none->h.regs.length=0∧p.cr=0)∧∀q,p.ar=some q->q.spot=none
 ks:KAt w (.agg (kA p h.k)) h.k
 low:∀q,some q∈aV p->q.block<w.heap.size
structure RunIn (w:World) (p:PtrM) (al:Option Addr) (cl:Nat) (r:RunM):Prop where
 h:HartIn w p r.h
 looks:RowC w al r.looks.length 2 (fj r.looks)
 lookc:r.looks.length<=cl∧cl<=9223372036854775807
 looka:(al=none->r.looks.length=0∧cl=0)∧∀q,al=some q->q.spot=none
 lookl:r.looks.length<=8
 low:∀q,al=some q->q.block<w.heap.size
theorem HartIn.keep {w w':World} {p:PtrM} {h:HartM} (k:HartIn w p h) (hb:Bw w w'):HartIn w' p h:=
 ⟨k.mem.keep hb,k.memc,k.regs.keep hb,k.regc,k.rega,k.ks.keep hb,fun q hq=>ltl (k.low q hq) hb.size⟩
theorem RunIn.keep {w w':World} {p:PtrM} {al:Option Addr} {cl:Nat} {r:RunM} (k:RunIn w p al cl r) (hb:Bw w w'):RunIn w' p al cl r:=
 ⟨k.h.keep hb,k.looks.keep hb,k.lookc,k.looka,k.lookl,fun q hq=>ltl (k.low q hq) hb.size⟩
theorem Byt.gb' {w w':World} {a:Option Addr} {len r:Nat} {zs:List Int} (h:Byt w a len zs) (hg:w.grownBy w' (some r)) (hne:∀q,a=some q->q.block≠r):Byt w' a len zs:=by
 obtain ⟨h1,h2,h3⟩:=h;refine ⟨h1,h2,?_⟩;rcases h3 with h3 | ⟨b,off,rfl,hb,hc⟩
 ·exact .inl h3
 ·have hne':=hne (AD b off) rfl;exact .inr ⟨b,off,rfl,ltl hb hg.size,fun i hi=>(World.cell?_of_block (hg.block b hb (by simpa using hne'))).trans (hc i hi)⟩
theorem TlbAt.gb' {w w':World} {t:TlbM} {a:Option Addr} {n c r:Nat} {x y:Value} (h:TlbAt w (.agg #[x,y,.slice a n c]) t) (hg:w.grownBy w' (some r)) (hne:∀q,a=some q->q.block≠r):TlbAt w' (.agg #[x,y,.slice a n c]) t:=by
 obtain ⟨a',c',he,hr,rest⟩:=h;simp only [Value.agg.injEq,Array.mk.injEq,List.cons.injEq,Value.slice.injEq,and_true] at he;obtain ⟨rfl,rfl,rfl,rfl,rfl⟩:=he;exact ⟨_,_,rfl,RowC.gb' hr hg hne,rest⟩
theorem HartIn.gb {w w':World} {p:PtrM} {h:HartM} {r:Nat} (k:HartIn w p h) (hg:w.grownBy w' (some r)) (hne:∀q,some q∈aV p->q.block≠r):HartIn w' p h:=by
 refine ⟨k.mem.gb' hg fun q hq=>hne q (by simp [aV,hq]),k.memc,RowC.gb' k.regs hg fun q hq=>hne q (by simp [aV,hq]),k.regc,k.rega,?_,fun q hq=>ltl (k.low q hq) hg.size⟩;obtain ⟨a1,c1,a2,c2,a3,c3,he,t1,t2,t3⟩:=k.ks;simp only [kA,Value.agg.injEq,Array.mk.injEq,List.cons.injEq,Value.slice.injEq,true_and,and_true] at he;obtain ⟨⟨rfl,rfl⟩,⟨rfl,rfl⟩,rfl,rfl⟩:=he;exact ⟨_,_,_,_,_,_,rfl,t1.gb' hg fun q hq=>hne q (by simp [aV,hq]),t2.gb' hg fun q hq=>hne q (by simp [aV,hq]),t3.gb' hg fun q hq=>hne q (by simp [aV,hq])⟩
theorem RunIn.gb {w w':World} {p:PtrM} {al:Option Addr} {cl r:Nat} {rm:RunM} (k:RunIn w p al cl rm) (hg:w.grownBy w' (some r)) (hne:∀q,some q∈aV p->q.block≠r) (hnl:∀q,al=some q->q.block≠r):RunIn w' p al cl rm:=
 ⟨k.h.gb hg hne,RowC.gb' k.looks hg hnl,k.lookc,k.looka,k.lookl,fun q hq=>ltl (k.low q hq) hg.size⟩
abbrev fN:Array Value:=#[SN,SN,VU 0,VI 0,.bool false,.bool false,VU 0,VU 0,VU 0,VI 0,VI 0,VU 0,VI 0,VI 0,SN,VI 0,VI 0,SN,VI 0,VI 0,SN]
abbrev eH:Array Value:=#[SN,SN,VU 0,VI 0,.bool false,.bool false,VU 0,VU 0,VU 0,VI 0,VI 0,VU 0,VI 0,VI 0,SN,VI 0,VI 0,SN,VI 0,VI 0,SN,.bool false,VI 0,VI 0,VU 0,SN,.bool false,.bool false,VU 0,.bool false,VU 0]
theorem dv (p:PtrM) (al:Option Addr) (cl:Nat) (plain:Bool) (pick:Int) (r:RunM):(aM p al cl plain pick r).all (·.oneCell')=true:=by
 simp [aM,Value.oneCell']
theorem fT (p:PtrM) (h:HartM):(ak p h).all (·.oneCell')=true:=by
 simp [ak,Value.oneCell']
theorem bC (p:PtrM) (al:Option Addr) (cl:Nat) (plain:Bool) (pick:Int) (r:RunM):(aM p al cl plain pick r).size=31:=rfl
theorem eI (p:PtrM) (h:HartM):(ak p h).size=21:=rfl
theorem aX:eH.size=31:=rfl
theorem eY:fN.size=21:=rfl
theorem dm:(Tryz.prog.info? 61).map (·.size)=some 31:=by kernel_rfl
theorem eM:(Tryz.prog.info? 43).map (·.size)=some 21:=by kernel_rfl
def fG (e:EntM):List Value:=[VI e.level,VU e.tag,VU e.asid,.bool e.glob,.bool e.valid,VU e.pte]
def dy (e:EntM):Value:=.agg #[VI e.level,VU e.tag,VU e.asid,.bool e.glob,.bool e.valid,VU e.pte]
def aI:List EntM->List Value
 | []=>[]
 | e::r=>fG e++aI r
theorem eN:∀es:List EntM,(aI es).length=es.length*6
 | []=>rfl
 | e::r=>by simp [aI,fG,eN r];omega
theorem mT:∀(es:List EntM) (i j:Nat) (hi:i<es.length),j<6->(aI es)[i*6+j]?=(fG es[i])[j]?
 | e::r,0,j,hi,hj=>by
  simp only [aI,List.getElem_cons_zero,Nat.zero_mul,Nat.zero_add];rw [List.getElem?_append_left (by simp [fG];exact hj)]
 | e::r,i+1,j,hi,hj=>by
  simp only [aI,List.getElem_cons_succ];rw [List.getElem?_append_right (by simp [fG];omega)];rw [show (i+1)*6+j-(fG e).length=i*6+j by simp [fG];omega];exact mT r i j (by simpa using hi) hj
theorem iG:∀(l:List EntM) (k:Nat) (e:EntM),k<l.length->aI (l.set k e)=((((((aI l).set (k*6) (VI e.level)).set (k*6+1) (VU e.tag)).set (k*6+2) (VU e.asid)).set (k*6+3) (.bool e.glob)).set (k*6+4) (.bool e.valid)).set (k*6+5) (VU e.pte)
 | x::r,0,e,h=>by simp [aI,fG]
 | x::r,k+1,e,h=>by
  have ih:=iG r k e (by simpa using h);rw [List.set_cons_succ];simp only [aI,ih];rw [show (k+1)*6=(fG x).length+k*6 by simp [fG];omega];simp only [Nat.add_assoc];rw [List.set_append_right _ _ (by simp [fG]),List.set_append_right _ _ (by omega),List.set_append_right _ _ (by omega),List.set_append_right _ _ (by omega),List.set_append_right _ _ (by omega),List.set_append_right _ _ (by omega)];simp
theorem qy {e:TypeId} {w:World} {base g n cap:Nat} {es:List EntM} (h:w.ownsRow base e 6 (SL g n cap) n (aI es)) (hn:es.length=n) (k:Nat) (x:EntM) (hx:es[k]?=some x) (j:Nat) (v:Value) (hj:j<6) (hv:(fG x)[j]?=some v):
 w.cell? ⟨g,k*6+j,none⟩=some v:=by
 have hk:=(List.getElem?_eq_some_iff.1 hx).1;refine aE h _ _ ?_;rw [mT es k j hk hj];obtain ⟨_,rfl⟩:=List.getElem?_eq_some_iff.1 hx;exact hv
def cZ (k n:Nat) (es:List EntM):List EntM:=es.take k++List.replicate (n-k) cH
theorem jz (k:Nat) (es:List EntM) (hk:k<=es.length):(cZ k es.length es).length=es.length:=by
 simp [cZ];omega
theorem mg (k:Nat) (es:List EntM) (x:EntM) (hx:es[k]?=some x):cZ (k+1) es.length es=(cZ k es.length es).set k x:=by
 obtain ⟨hk,rfl⟩:=List.getElem?_eq_some_iff.1 hx;unfold cZ;apply List.ext_getElem?;intro j;rw [List.getElem?_set];by_cases hj:k=j
 ·subst hj;rw [if_pos rfl,if_pos (by simp;omega),List.getElem?_append_left (by simp;omega)];simp [hk]
 ·rw [if_neg hj];by_cases hlt:j<k
  ·rw [List.getElem?_append_left (by simp;omega),List.getElem?_append_left (by simp;omega)];simp [hlt,show j<k+1 by omega]
  ·rw [List.getElem?_append_right (by simp;omega),List.getElem?_append_right (by simp;omega)];simp only [List.length_take,List.getElem?_replicate];rw [show min (k+1) es.length=k+1 by omega,show min k es.length=k by omega];by_cases hh:j<es.length
   ·rw [if_pos (by omega),if_pos (by omega)]
   ·rw [if_neg (by omega),if_neg (by omega)]
theorem xF (k:Nat) (es:List EntM) (hx:es[k]?=some cH):cZ (k+1) es.length es=cZ k es.length es:=by
 rw [mg k es cH hx];have hk:=(List.getElem?_eq_some_iff.1 hx).1;apply List.ext_getElem?;intro j;rw [List.getElem?_set];by_cases hj:k=j
 ·subst hj;rw [if_pos rfl,if_pos (by rw [jz _ _ (by omega)];exact hk)];unfold cZ;rw [List.getElem?_append_right (by simp;omega)];simp only [List.length_take,List.getElem?_replicate];rw [if_pos (by omega)]
 ·rw [if_neg hj]
theorem oM (es:List EntM):cZ es.length es.length es=es:=by
 simp [cZ]
theorem pJ (n:Nat) (es:List EntM):cZ 0 n es=List.replicate n cH:=by simp [cZ]
theorem jO {B:Nat} {a w:World} {g:Nat} (h:Below B a w) (hg:B<=g) (x y z u v t:Value):Below B a ((((((w.setCell (AD g 0) x).setCell (AD g 1) y).setCell (AD g 2) z).setCell (AD g 3) u).setCell (AD g 4) v).setCell (AD g 5) t):=
 (((gQ h hg x y z).setCell (p:=(AD g 3)) hg u).setCell (p:=(AD g 4)) hg v).setCell (p:=(AD g 5)) hg t
theorem iY {v:World} {p:Nat} {T:TypeId} {a b c d e f:Value} (h:v.heap[p]?=some (.cells #[a,b,c,d,e,f] T (0,0))):
 (v.cell? (AD p 0)=some a∧v.cell? (AD p 1)=some b∧v.cell? (AD p 2)=some c∧v.cell? (AD p 3)=some d∧v.cell? (AD p 4)=some e∧v.cell? (AD p 5)=some f)∧
  (v.frozen? (AD p 0)=false∧v.frozen? (AD p 1)=false∧v.frozen? (AD p 2)=false∧v.frozen? (AD p 3)=false∧v.frozen? (AD p 4)=false∧v.frozen? (AD p 5)=false):=by
 simp [World.cell?,World.frozen?,h]
end Go.Proofs.YtkenjknmfhoppaaGreat
