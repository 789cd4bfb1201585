import Derived.Test.YtpdddbobhndbjaaGreatPk05
namespace Go.Proofs.YtpdddbobhndbjaaGreat
open Go.RowKit
set_option linter.unusedVariables false
set_option maxHeartbeats 6400000
set_option maxRecDepth 20000
structure HartM where
 mem:List Int
 regs:List Int
 pc:Int
 mode:Int
 sum:Bool
 mxr:Bool
 satp:Int
 tvec:Int
 epc:Int
 emode:Int
 cause:Int
 tval:Int
 k:KM
structure RunM where
 h:HartM
 cause:Int
 tval:Int
 looks:List (Int × Int)
 fenced:Bool
 fence:FenceM
def eJ:FenceM:=⟨false,0,false,0⟩
def de (satp:Int):Bool:=satp/1152921504606846976%16 == 0 || satp/1152921504606846976%16 == 8
def ez (n:Nat):Bool:=decide (n%64=0∧64<=n∧n<=4096)
def io (h:HartM):Bool:=
 decide (h.regs.length=8) && (h.regs[0]?.getD 0 == 0) && decide (0<=h.mode∧h.mode<=2) && decide (0<=h.emode∧h.emode<=2) && de h.satp && (h.tvec%4 == 0) && decide (0<=h.cause∧h.cause<=63)
def qK (h:HartM):Bool:=ez h.mem.length && io h && bW h.k
def br (plain:Bool) (pick:Int) (h:HartM) (kind va:Int):(Int × Int) × KM:=
 if plain=true then (iF h.mem h.mode h.sum h.mxr h.satp kind va,h.k) else cD h.mem h.mode h.sum h.mxr h.satp h.k kind va pick
def withK (h:HartM) (k:KM):HartM:=⟨h.mem,h.regs,h.pc,h.mode,h.sum,h.mxr,h.satp,h.tvec,h.epc,h.emode,h.cause,h.tval,k⟩
def eg (h:HartM) (mem:List Int):HartM:=⟨mem,h.regs,h.pc,h.mode,h.sum,h.mxr,h.satp,h.tvec,h.epc,h.emode,h.cause,h.tval,h.k⟩
def eC (h:HartM) (regs:List Int):HartM:=⟨h.mem,regs,h.pc,h.mode,h.sum,h.mxr,h.satp,h.tvec,h.epc,h.emode,h.cause,h.tval,h.k⟩
def ex (h:HartM) (pc:Int):HartM:=⟨h.mem,h.regs,pc,h.mode,h.sum,h.mxr,h.satp,h.tvec,h.epc,h.emode,h.cause,h.tval,h.k⟩
def bE (r:RunM) (h:HartM):RunM:=⟨h,r.cause,r.tval,r.looks,r.fenced,r.fence⟩
def bT (r:RunM) (cause tval:Int):RunM:=⟨r.h,cause,tval,r.looks,r.fenced,r.fence⟩
def bX (plain:Bool) (pick:Int) (r:RunM) (kind va:Int):RunM:=
 ⟨withK r.h (br plain pick r.h kind va).2,r.cause,r.tval,r.looks++[(kind,va)],r.fenced,r.fence⟩
abbrev bF:=Int × Int × Int
def cE (va w:Int):List bF:=
 if 64-va%64<w then [(va,64-va%64,0),((va+(64-va%64))%18446744073709551616,w-(64-va%64),0)] else [(va,w,0)]
def ao (plain:Bool) (pick kind:Int):RunM->List bF->RunM × List bF
 | r,[]=>(r,[])
 | r,p::ps=>
  if (br plain pick r.h kind p.1).1.1=0 then
   ((ao plain pick kind (bX plain pick r kind p.1) ps).1,(p.1,p.2.1,(br plain pick r.h kind p.1).1.2)::(ao plain pick kind (bX plain pick r kind p.1) ps).2)
  else (bT (bX plain pick r kind p.1) (br plain pick r.h kind p.1).1.1 p.1,p::ps)
def fN (mem:List Int):List bF->Option Int
 | []=>none
 | p::ps=>if fA mem.length p.2.2 p.2.1=true then fN mem ps else some p.1
def aL (plain:Bool) (pick:Int) (r:RunM) (kind va w:Int):RunM × List bF:=
 if (ao plain pick kind r (cE va w)).1.cause=0 then
  match fN (ao plain pick kind r (cE va w)).1.h.mem (ao plain pick kind r (cE va w)).2 with
  | none=>ao plain pick kind r (cE va w)
  | some v=>(bT (ao plain pick kind r (cE va w)).1 (bL kind) v,(ao plain pick kind r (cE va w)).2)
 else ao plain pick kind r (cE va w)
def cz (mem:List Int):List bF->List Int
 | []=>[]
 | p::ps=>(mem.drop p.2.2.toNat).take p.2.1.toNat++cz mem ps
def iD (mem:List Int) (ps:List bF):Int:=num (cz mem ps)
def iz:List Int->List bF->List Int->List Int
 | mem,[],_=>mem
 | mem,p::ps,b=>iz (put mem p.2.2.toNat (b.take p.2.1.toNat)) ps (b.drop p.2.1.toNat)
def fV (h:HartM) (a:Int):Int:=h.regs[a.toNat]?.getD 0
def ct (r:RunM) (a x:Int):RunM:=bE r (eC r.h (if 0<a then r.h.regs.set a.toNat x else r.h.regs))
def gV (s:Int):Int:=if 128<=s then s-256 else s
def iA (n:Int):Int:=2^n.toNat
def bU (op c mode:Int):Bool:=
 decide (9<=op∧op<=11∧mode=0) || decide ((op=12∨op=13)∧mode≠2) || decide (op=13∧2<c)
def lZ (h:HartM) (a b:Int):FenceM:=⟨decide (a≠0),fV h a,decide (b≠0),fV h b%65536⟩
def dA (k:KM) (f:FenceM):KM:=⟨eI k.i f,eI k.d f,eI k.p f⟩
def oA (plain:Bool) (pick:Int) (r:RunM) (ea w a:Int):RunM:=
 if (aL plain pick r 1 ea w).1.cause=0 then ct (aL plain pick r 1 ea w).1 a (iD (aL plain pick r 1 ea w).1.h.mem (aL plain pick r 1 ea w).2) else (aL plain pick r 1 ea w).1
def dh (t:RunM × List bF) (b:List Int):RunM:=bE t.1 (eg t.1.h (iz t.1.h.mem t.2 b))
def kl (plain:Bool) (pick:Int) (r:RunM) (ea w x:Int):RunM:=
 if (aL plain pick r 2 ea w).1.cause=0 then dh (aL plain pick r 2 ea w) (da x w.toNat) else (aL plain pick r 2 ea w).1
def uD (plain:Bool) (pick:Int) (r:RunM) (ea a x:Int):RunM:=
 if (aL plain pick r 2 ea 8).1.cause=0 then ct (dh (aL plain pick r 2 ea 8) (da ((iD (aL plain pick r 2 ea 8).1.h.mem (aL plain pick r 2 ea 8).2+x)%18446744073709551616) 8)) a (iD (aL plain pick r 2 ea 8).1.h.mem (aL plain pick r 2 ea 8).2) else (aL plain pick r 2 ea 8).1
def eaM (h:HartM) (b s:Int):Int:=(fV h b+gV s)%18446744073709551616
def doM (plain:Bool) (pick:Int) (r:RunM) (pc op a b c s word:Int):RunM:=
 if bU op c r.h.mode=true then bT r 2 word
 else if op=1 then ct r a (gV s%18446744073709551616)
 else if op=2 then ct r a ((fV r.h b+fV r.h c)%18446744073709551616)
 else if op=3 then ct r a (eaM r.h b s)
 else if op=4 then ct r a (fV r.h b*iA (s%64)%18446744073709551616)
 else if op=5 then oA plain pick r (eaM r.h b s) (iA (c%4)) a
 else if op=6 then kl plain pick r (eaM r.h b s) (iA (c%4)) (fV r.h a)
 else if op=7 then uD plain pick r (eaM r.h b s) a (fV r.h c)
 else if op=8 then (if fV r.h a=fV r.h b then r else bE r (ex r.h ((pc+4*gV s)%18446744073709551616)))
 else if op=9 then (if de (fV r.h a)=true then bE r ⟨r.h.mem,r.h.regs,r.h.pc,r.h.mode,r.h.sum,r.h.mxr,fV r.h a,r.h.tvec,r.h.epc,r.h.emode,r.h.cause,r.h.tval,r.h.k⟩ else r)
 else if op=10 then bE r ⟨r.h.mem,r.h.regs,r.h.pc,r.h.mode,bR (fV r.h a) 1,bR (fV r.h a) 2,r.h.satp,r.h.tvec,r.h.epc,r.h.emode,r.h.cause,r.h.tval,r.h.k⟩
 else if op=11 then ⟨if plain=true then r.h else withK r.h (dA r.h.k (lZ r.h a b)),r.cause,r.tval,r.looks,true,lZ r.h a b⟩
 else if op=12 then bE r ⟨r.h.mem,r.h.regs,(r.h.epc+4*gV s)%18446744073709551616,r.h.emode,r.h.sum,r.h.mxr,r.h.satp,r.h.tvec,r.h.epc,r.h.emode,r.h.cause,r.h.tval,r.h.k⟩
 else if op=13 then bE r ⟨r.h.mem,r.h.regs,r.h.pc,r.h.mode,r.h.sum,r.h.mxr,r.h.satp,r.h.tvec,fV r.h a,c,r.h.cause,r.h.tval,r.h.k⟩
 else if op=14 then bT r (8+r.h.mode) 0
 else bT r 2 word
def fm (plain:Bool) (pick:Int) (r:RunM) (op p q s word:Int):RunM:=
 doM plain pick (bE r (ex r.h ((r.h.pc+4)%18446744073709551616))) r.h.pc op (p%8) (p/8%8) (q%8) s word
def bf (t:TlbM) (n:Int):TlbM:=⟨t.sets,t.ways,t.es.set (n%t.es.length).toNat cK⟩
def fW (plain:Bool) (pick:Int) (k:KM):KM:=
 if 128<=pick∧plain=false then ⟨bf k.i (pick-128),bf k.d (pick-128),bf k.p (pick-128)⟩ else k
def jQ (plain:Bool) (pick:Int) (h:HartM):Int:=rdV h.mem (br plain pick h 0 h.pc).1.2 4
def jR (plain:Bool) (pick:Int) (r:RunM) (x:Int):RunM:=fm plain pick r (x%256) (x/256%256) (x/65536%256) (x/16777216) x
def eD (plain:Bool) (pick:Int) (r:RunM):RunM:=
 if r.h.pc%4=0 then
  if (br plain pick r.h 0 r.h.pc).1.1=0 then
   if dP r.h.mem.length (br plain pick r.h 0 r.h.pc).1.2 4=true then jR plain pick (bX plain pick r 0 r.h.pc) (jQ plain pick r.h)
   else bT (bX plain pick r 0 r.h.pc) 1 r.h.pc
  else bT (bX plain pick r 0 r.h.pc) (br plain pick r.h 0 r.h.pc).1.1 r.h.pc
 else bT r 20 r.h.pc
def cL (plain:Bool) (pick:Int) (h:HartM):RunM:=⟨withK h (fW plain pick h.k),0,0,[],false,eJ⟩
def dK (h:HartM) (r:RunM):HartM:=⟨h.mem,h.regs,h.tvec,2,h.sum,h.mxr,h.satp,h.tvec,h.pc,h.mode,r.cause,r.tval,r.h.k⟩
def oB (h:HartM) (r:RunM):RunM:=if r.cause=0 then r else bE r (dK h r)
def dU (plain:Bool) (pick:Int) (h:HartM):RunM:=oB h (eD plain pick (cL plain pick h))
structure EvM where
 pc:Int
 mode:Int
 cause:Int
 tval:Int
def dX (plain:Bool):List Int->HartM->List EvM × HartM
 | [],h=>([],h)
 | p::ps,h=>(⟨h.pc,h.mode,(dU plain p h).cause,(dU plain p h).tval⟩::(dX plain ps (dU plain p h).h).1,(dX plain ps (dU plain p h).h).2)
def atM (b:List Int) (i:Nat):Int:=b[i]?.getD 0
def cw (b:List Int) (i:Nat):Int:=num ((List.range 8).map fun k=>atM b (i+k))
def ag (y:Int):TlbM:=⟨2^(y%4).toNat,1+y/4%4,List.replicate (2^(y%4).toNat*(1+y/4%4).toNat) cK⟩
def kE (b:List Int):Nat->Nat->Nat->List Int->List Int
 | 0,_,_,mem=>mem
 | m+1,i,a,mem=>kE b m (i+1) (a+1) (if a<mem.length then mem.set a (atM b i) else mem)
def qi (b:List Int) (i:Nat):Nat:=(atM b i+256*atM b (i+1)).toNat
def iG (b:List Int):Nat->Nat->List Int->List Int × Nat
 | 0,i,mem=>(mem,i)
 | n+1,i,mem=>iG b n (i+3+(atM b (i+2)).toNat) (kE b (atM b (i+2)).toNat (i+3) (qi b i) mem)
def bO (y:Int):Int:=if y%4=3 then 1 else y%4
def iE (b:List Int):Nat:=min (atM b 5+256*atM b 6).toNat 20000
def qq (b:List Int):List Int × Nat:=iG b (atM b 87).toNat 88 (List.replicate (64*(1+(atM b 3%64).toNat)) 0)
def jb (b:List Int):List Int:=0::(List.range 7).map fun r=>cw b (31+8*r)
def bq (b:List Int):HartM:=
 ⟨(qq b).1,jb b,cw b 7,bO (atM b 4),atM b 4/4%2 == 1,atM b 4/8%2 == 1,if de (cw b 23)=true then cw b 23 else 0,cw b 15/4*4,0,bO (atM b 4),0,0,⟨ag (atM b 0),ag (atM b 1),ag (atM b 2)⟩⟩
def cf (b:List Int):List Int:=(List.range (iE b)).map fun k=>atM b ((qq b).2+k)
theorem mO (zs:List Int) (va:Int):∀(l:Nat) (n:Int),(cQ zs va l n).1=1∨(cQ zs va l n).1=2∨(cQ zs va l n).1=3
 | 0,n=>by
  unfold cQ;split
  ·simp
  ·split
   ·simp
   ·split <;> simp
 | l+1,n=>by
  unfold cQ;split
  ·simp
  ·split
   ·simp
   ·split
    ·simp
    ·exact mO zs va l _
theorem mQ (zs:List Int) (root va:Int):(dv zs root va).1=1∨(dv zs root va).1=2∨(dv zs root va).1=3:=by
 unfold dv;split
 ·simp
 ·exact mO zs va 2 _
theorem yE (va level:Int) (h0:0<=level) (h2:level<=2):0<=fJ va level∧fJ va level<kQ level:=by
 unfold fJ kQ;rcases (show level=0∨level=1∨level=2 by omega) with rfl | rfl | rfl <;> simp <;> omega
theorem qg {pte level:Int} (h:bC pte level≠0):0<=level∧level<=2:=by
 unfold bC at h;split at h
 ·exact absurd rfl h
 ·omega
theorem jO (level va satp pte:Int) (p:Bool) (hk:bC pte level=iu p):aY (eH level va satp pte) p=true:=by
 have hl:=qg (by rw [hk];cases p <;> decide);have ht:=yE va level hl.1 hl.2;have ha:aM satp<=65535:=by unfold aM;omega
 simp [aY,eH,hl.1,hl.2,ht.2,ha,hk]
theorem wB (level va satp pte:Int) (p:Bool) (hk:bC pte level=iu p):0<=(eH level va satp pte).tag:=by
 have hl:=qg (by rw [hk];cases p <;> decide);exact (yE va level hl.1 hl.2).1
theorem mT (va satp pick:Int):∀(rs:List dQ) (p:TlbM),aQ p true=true->aQ (cG va satp pick rs p) true=true
 | [],p,h=>h
 | r::rs,p,h=>by
  rw [cG];refine mT va satp pick rs _ ?_;split
  ·rename_i hk;exact kj p _ pick true h (jO _ _ _ _ true hk) (wB _ _ _ _ true hk)
  ·exact h
theorem mU (zs:List Int) (va:Int):∀(l:Nat) (n:Int),(cQ zs va l n).1=1->bC (cQ zs va l n).2.2.1 (cQ zs va l n).2.1=2
 | 0,n=>by
  intro h;unfold cQ at h |-;split at h
  ·simp at h
  ·rename_i h1;rw [if_neg h1];split at h
   ·simp at h
   ·rename_i h2;rw [if_neg h2];split at h
    ·rename_i h3;rw [if_pos h3];exact h3
    ·simp at h
 | l+1,n=>by
  intro h;unfold cQ at h |-;split at h
  ·simp at h
  ·rename_i h1;rw [if_neg h1];split at h
   ·simp at h
   ·rename_i h2;rw [if_neg h2];split at h
    ·rename_i h3;rw [if_pos h3];exact h3
    ·rename_i h3;rw [if_neg h3];exact mU zs va l _ h
theorem xX (zs:List Int) (root va:Int) (h:(dv zs root va).1=1):bC (dv zs root va).2.2.1 (dv zs root va).2.1=2:=by
 unfold dv at h |-;split at h
 ·simp at h
 ·rename_i hc;rw [if_neg hc];exact mU zs va 2 _ h
theorem sg (kind:Int):eA kind≠0:=by
 unfold eA;split
 ·decide
 ·split <;> decide
theorem iY (kind:Int):bL kind≠0:=by
 unfold bL;split
 ·decide
 ·split <;> decide
theorem xY (zs:List Int) (mode:Int) (sum mxr:Bool) (satp:Int) (k:KM) (kind va pick:Int) (hk:bW k=true) (h1:0<=kind∧kind<=2) (h2:0<=mode∧mode<=2) (h3:0<=pick∧pick<=255):
 bW (cD zs mode sum mxr satp k kind va pick).2=true:=by
 have hk':=hk;simp only [bW,Bool.and_eq_true] at hk';obtain ⟨⟨gi,gd⟩,gp⟩:=hk';unfold cD;rw [if_neg (by rw [hk];simp;omega)];split
 ·exact hk
 ·split
  ·exact hk
  ·split
   ·exact hk
   ·simp only;have gp':=mT va satp pick (bj zs satp va (ba k.p va (aM satp))).2.2.2 k.p gp;split
    ·rename_i ha;have hkind:bC (bj zs satp va (ba k.p va (aM satp))).2.2.1 (bj zs satp va (ba k.p va (aM satp))).2.1=2:=by
      have hcode:(bj zs satp va (ba k.p va (aM satp))).1=1:=by
       have hc:(bj zs satp va (ba k.p va (aM satp))).1=1∨(bj zs satp va (ba k.p va (aM satp))).1=2∨(bj zs satp va (ba k.p va (aM satp))).1=3:=by
        unfold bj;split
        ·exact mO zs va _ _
        ·exact mQ zs satp va
       unfold cV at ha;rcases hc with hc | hc | hc
       ·exact hc
       ·rw [if_pos hc] at ha;exact absurd ha (sg kind)
       ·rw [if_neg (by rw [hc];decide),if_pos hc] at ha;exact absurd ha (iY kind)
      unfold bj at hcode |-;split at hcode
      ·rename_i hu;rw [if_pos hu];exact mU zs va _ _ hcode
      ·rename_i hu;rw [if_neg hu];exact xX zs satp va hcode
     have hge:=jO _ va satp _ false hkind;have hgt:=wB _ va satp _ false hkind;unfold sX eQ;split
     ·simp only [bW,Bool.and_eq_true];exact ⟨⟨kj _ _ pick false gi hge hgt,gd⟩,gp'⟩
     ·simp only [bW,Bool.and_eq_true];exact ⟨⟨gi,kj _ _ pick false gd hge hgt⟩,gp'⟩
    ·simp only [bW,Bool.and_eq_true];exact ⟨⟨gi,gd⟩,gp'⟩
abbrev iC:=Int × Int × Bool × dQ
def yC (va satp:Int) (r:dQ):iC:=(fJ va r.1,aM satp,bR r.2.2 32,r)
def uA (gs:List iC) (f:FenceM):List iC:=gs.filter fun g=>!il f g.2.2.2.1 g.1 g.2.1 g.2.2.1
def AX (g:iC) (e:EntM):Prop:=g.1=e.tag∧g.2.1=e.asid∧g.2.2.1=e.glob∧g.2.2.2.1=e.level∧g.2.2.2.2.2=e.pte
def CovT (t:TlbM) (gs:List iC):Prop:=∀e∈t.es,e.valid=true->∃g∈gs,AX g e
def CovK (k:KM) (gs:List iC):Prop:=CovT k.i gs∧CovT k.d gs∧CovT k.p gs
theorem CovT.mono {t:TlbM} {gs gs':List iC} (h:CovT t gs) (hs:∀g∈gs,g∈gs'):CovT t gs':=fun e he hv=>by
 obtain ⟨g,hg,hs'⟩:=h e he hv;exact ⟨g,hs g hg,hs'⟩
theorem CovK.mono {k:KM} {gs gs':List iC} (h:CovK k gs) (hs:∀g∈gs,g∈gs'):CovK k gs':=⟨h.1.mono hs,h.2.1.mono hs,h.2.2.mono hs⟩
theorem CovT.insert {t:TlbM} {gs:List iC} {e:EntM} {pick:Int} (h:CovT t gs) (he:∃g∈gs,AX g e):CovT (dg t e pick) gs:=by
 unfold dg;split
 ·intro x hx hv;rcases List.mem_or_eq_of_mem_set hx with hx | rfl
  ·exact h x hx hv
  ·exact he
 ·exact h
theorem xU (va satp:Int) (r:dQ):AX (yC va satp r) (eH r.1 va satp r.2.2):=⟨rfl,rfl,rfl,rfl,rfl⟩
theorem CovT.ptrs {gs:List iC} {va satp pick:Int}:∀(rs:List dQ) (p:TlbM),CovT p gs->(∀r∈rs,bC r.2.2 r.1=1->yC va satp r∈gs)->CovT (cG va satp pick rs p) gs
 | [],p,h,_=>h
 | r::rs,p,h,hr=>by
  rw [cG];refine CovT.ptrs rs _ ?_ (fun x hx=>hr x (List.mem_cons_of_mem _ hx));split
  ·rename_i hk;exact h.insert ⟨_,hr r (List.mem_cons_self ..) hk,xU va satp r⟩
  ·exact h
theorem CovT.flush {t:TlbM} {gs:List iC} {f:FenceM} (h:CovT t gs) (he:fK t=true):CovT (eI t f) (uA gs f):=by
 unfold eI;rw [if_pos he];intro x hx hv;simp only [List.mem_map] at hx;obtain ⟨y,hy,rfl⟩:=hx;unfold cj at hv |-;split at hv
 ·simp [cK] at hv
 ·rename_i hc;rw [if_neg hc];obtain ⟨g,hg,h1,h2,h3,h4,h5⟩:=h y hy hv;refine ⟨g,?_,h1,h2,h3,h4,h5⟩;simp only [uA,List.mem_filter,h1,h2,h3,h4,Bool.not_eq_true'];refine ⟨hg,?_⟩;simp only [hv,Bool.true_and,Bool.not_eq_true] at hc;exact hc
theorem kZ (t:TlbM) (n:Int) (p:Bool) (hv:aQ t p=true):aQ (bf t n) p=true:=by
 have hs:=fl hv;refine si ?_ ?_
 ·simp only [iU,bf,decide_eq_true_eq,List.length_set];exact hs
 ·intro j x hx;simp only [bf,List.getElem?_set] at hx;split at hx
  ·split at hx
   ·cases hx;simp [cy,cK]
   ·cases hx
  ·exact jP hv j x hx
theorem xV (plain:Bool) (pick:Int) (k:KM) (h:bW k=true):bW (fW plain pick k)=true:=by
 unfold fW;split
 ·simp only [bW,Bool.and_eq_true] at h |-;exact ⟨⟨kZ _ _ _ h.1.1,kZ _ _ _ h.1.2⟩,kZ _ _ _ h.2⟩
 ·exact h
theorem wo (k:KM) (f:FenceM) (h:bW k=true):bW (dA k f)=true:=by
 simp only [bW,dA,Bool.and_eq_true] at h |-;exact ⟨⟨lm _ _ _ h.1.1,lm _ _ _ h.1.2⟩,lm _ _ _ h.2⟩
theorem CovK.flush {k:KM} {gs:List iC} {f:FenceM} (h:CovK k gs) (hk:bW k=true):CovK (dA k f) (uA gs f):=by
 simp only [bW,Bool.and_eq_true] at hk;exact ⟨h.1.flush (dM hk.1.1),h.2.1.flush (dM hk.1.2),h.2.2.flush (dM hk.2)⟩
theorem wk (a k:Nat):(a &&& 2^k != 0)=(a/2^k%2 == 1):=by
 have e:(a/2^k%2 == 1)=a.testBit k:=by rw [Nat.testBit_eq_decide_div_mod_eq];rfl
 rw [e];cases h:a.testBit k
 ·have:a &&& 2^k=0:=by
   apply Nat.eq_of_testBit_eq;intro i;rw [Nat.testBit_and,Nat.testBit_two_pow,Nat.zero_testBit];by_cases hi:k=i
   ·subst hi;simp [h]
   ·simp [hi]
  simp [this]
 ·have:a &&& 2^k≠0:=by
   intro h0;have:=congrArg (fun n=>n.testBit k) h0;simp [Nat.testBit_and,h] at this
  simpa using this
theorem ke (a m n:Nat):(a &&& (m ||| n) != 0)=((a &&& m != 0) || (a &&& n != 0)):=by
 rw [Nat.and_or_distrib_left];cases h:(a &&& m != 0) <;> cases h':(a &&& n != 0) <;> simp_all [Nat.or_eq_zero_iff]
def wm (x m:Int):Bool:=bits .and .u64 x m != 0
theorem gJ (a m:Nat) (ha:a<18446744073709551616) (hm:m<18446744073709551616):wm a m=(a &&& m != 0):=by
 rw [wm,u64_and_nat a m ha hm];cases h:(a &&& m != 0)
 ·simp at h;simp [h]
 ·simp at h;simp;omega
theorem dI (k:Nat) (x p:Int) (hp:p=2^k) (hk:p<18446744073709551616) (h0:0<=x) (h1:x<=18446744073709551615):wm x p=bR x p:=by
 obtain ⟨a,rfl⟩:=Int.eq_ofNat_of_zero_le h0;have e:p=((2^k:Nat):Int):=by rw [hp];push_cast;rfl
 rw [e] at hk |-;rw [gJ a (2^k) (by omega) (by omega),wk,bR];rw [show ((a:Int)/((2^k:Nat):Int)%2)=((a/2^k%2:Nat):Int) by omega];generalize a/2^k%2=t;rw [Bool.eq_iff_iff];simp only [beq_iff_eq];omega
theorem AU (x:Int) (h0:0<=x) (h1:x<=18446744073709551615):wm x 14=(bR x 2 || bR x 4 || bR x 8):=by
 rw [<-dI 1 x 2 rfl (by omega) h0 h1,<-dI 2 x 4 rfl (by omega) h0 h1,<-dI 3 x 8 rfl (by omega) h0 h1];obtain ⟨a,rfl⟩:=Int.eq_ofNat_of_zero_le h0;rw [show (14:Int)=((14:Nat):Int) from rfl,show (2:Int)=((2:Nat):Int) from rfl,show (4:Int)=((4:Nat):Int) from rfl,show (8:Int)=((8:Nat):Int) from rfl];rw [gJ a 14 (by omega) (by omega),gJ a 2 (by omega) (by omega),gJ a 4 (by omega) (by omega),gJ a 8 (by omega) (by omega)];rw [<-ke,<-ke];rfl
theorem AV (x:Int) (h0:0<=x) (h1:x<=18446744073709551615):wm x 208=(bR x 16 || bR x 64 || bR x 128):=by
 rw [<-dI 4 x 16 rfl (by omega) h0 h1,<-dI 6 x 64 rfl (by omega) h0 h1,<-dI 7 x 128 rfl (by omega) h0 h1];obtain ⟨a,rfl⟩:=Int.eq_ofNat_of_zero_le h0;rw [show (208:Int)=((208:Nat):Int) from rfl,show (16:Int)=((16:Nat):Int) from rfl,show (64:Int)=((64:Nat):Int) from rfl,show (128:Int)=((128:Nat):Int) from rfl];rw [gJ a 208 (by omega) (by omega),gJ a 16 (by omega) (by omega),gJ a 64 (by omega) (by omega),gJ a 128 (by omega) (by omega)];rw [<-ke,<-ke];rfl
theorem tL (k:Nat) (x m P:Int) (hP:P=2^k) (hm:m=P-1) (hk:m<18446744073709551616) (h0:0<=x) (h1:x<=18446744073709551615):bits .andNot .u64 x m=x/P*P:=by
 obtain ⟨a,rfl⟩:=Int.eq_ofNat_of_zero_le h0;have hp:1<=(2^k:Nat):=Nat.one_le_two_pow;have eP:P=((2^k:Nat):Int):=by rw [hP];push_cast;rfl
 have e:m=((2^k-1:Nat):Int):=by rw [hm,eP];omega
 rw [e] at hk |-;rw [eP,u64_andNot_nat a (2^k-1) (by omega) (by omega)];rw [show ((a:Int)/((2^k:Nat):Int)*((2^k:Nat):Int))=((a/2^k*2^k:Nat):Int) by push_cast;rfl];congr 1;apply Nat.eq_of_testBit_eq;intro i;have hk64:k<=64:=by
  rcases Nat.lt_or_ge 64 k with h | h
  ·have:2^65<=2^k:=Nat.pow_le_pow_right (by omega) h;omega
  ·exact h
 rw [Nat.testBit_and,Nat.testBit_mul_two_pow,Nat.testBit_div_two_pow];by_cases hi:k<=i
 ·by_cases hi':i<64
  ·have:(18446744073709551615-(2^k-1)).testBit i=true:=by
    rw [show 18446744073709551615-(2^k-1)=2^64-(2^k-1+1) by omega,Nat.testBit_two_pow_sub_succ (by omega),Nat.testBit_two_pow_sub_one];simp;omega
   rw [this];simp [hi,show i-k+k=i by omega]
  ·have:a.testBit i=false:=Nat.testBit_lt_two_pow (Nat.lt_of_lt_of_le (by omega:a<2^64) (Nat.pow_le_pow_right (by omega) (by omega)));simp [this,show i-k+k=i by omega]
 ·have:(18446744073709551615-(2^k-1)).testBit i=false:=by
   rw [show 18446744073709551615-(2^k-1)=2^64-(2^k-1+1) by omega,Nat.testBit_two_pow_sub_succ (by omega),Nat.testBit_two_pow_sub_one];simp;omega
  simp [this,hi]
theorem mR (k:Nat) (x y m P:Int) (hP:P=2^k) (hm:m=P-1) (hk:m<18446744073709551616) (h0:0<=x) (h1:x<=18446744073709551615) (g0:0<=y) (g1:y<=18446744073709551615):
 bits .or .u64 (bits .andNot .u64 x m) (bits .and .u64 y m)=x/P*P+y%P:=by
 have hp:1<=P:=by rw [hP];exact Int.pow_pos (by omega:(0:Int)<2)
 rw [tL k x m P hP hm hk h0 h1,eE k y m (by rw [hm,hP]) hk g0 g1,<-hP];have a1:0<=y%P:=Int.emod_nonneg _ (by omega);have a2:y%P<P:=Int.emod_lt_of_pos _ (by omega);have a3:0<=x/P:=Int.ediv_nonneg h0 (by omega);have a4:x/P*P<=x:=Int.ediv_mul_le _ (by omega);have a5:0<=x/P*P:=Int.mul_nonneg a3 (by omega);have hc:bits .or .u64 (x/P*P) (y%P)=bits .or .u64 (y%P) (x/P*P):=by
  rw [u64_or _ _ a5 (by omega) a1 (by omega),u64_or _ _ a1 (by omega) a5 (by omega),Nat.or_comm]
 rw [hc,eR k P (y%P) (x/P) hP a1 a2 a3 (by omega) (by omega)];omega
theorem dt (n m:Int) (w:World) (h:(n=0∧m=0)∨(n=3∧m=7)∨(n=6∧m=63)∨(n=9∧m=511)∨(n=12∧m=4095)∨(n=44∧m=17592186044415)∨(n=50∧m=1125899906842623)∨(n=15∧m=32767)∨(n=16∧m=65535)):
 Calls Tryz.prog 81 #[.int .i64 n] w fun e w'=>e=.returned (.int .u64 m)∧w'=w:=by
 rcases h with ⟨rfl,rfl⟩ | ⟨rfl,rfl⟩ | ⟨rfl,rfl⟩ | ⟨rfl,rfl⟩ | ⟨rfl,rfl⟩ | ⟨rfl,rfl⟩ | ⟨rfl,rfl⟩ | ⟨rfl,rfl⟩ | ⟨rfl,rfl⟩;all_goals
  go_enter Tryz.func81,Tryz.ntmps81;go_wp2_with fail;go_ret;exact ⟨rfl,rfl⟩
theorem dE (x m:Int) (w:World):
 Calls Tryz.prog 130 #[.int .u64 x,.int .u64 m] w fun e w'=>e=.returned (.bool (wm x m))∧w'=w:=by
 go_enter Tryz.func130,Tryz.ntmps130;go_wp2_with fail;go_ret;exact ⟨rfl,rfl⟩
theorem iK (x:Int) (w:World) (h0:0<=x) (h1:x<=18446744073709551615):
 Calls Tryz.prog 104 #[.int .u64 x] w fun e w'=>e=.returned (.bool (du x))∧w'=w:=by
 have hm:x/16384%1125899906842624=x/16384:=Int.emod_eq_of_lt (Int.ediv_nonneg h0 (by omega)) (by omega);rw [du,hm];clear hm;by_cases ht:x/16384=0
 ·have ht':(x/16384 == 0)=true:=by simp [ht]
  clear ht;go_enter Tryz.func104,Tryz.ntmps104;go_wp2_with fail;go_ret;exact ⟨by simp [ht'],rfl⟩
 ·have ht':(x/16384 == 0)=false:=by simpa using ht
  clear ht;go_enter Tryz.func104,Tryz.ntmps104;go_wp2_with (go_at_call 81;refine (dt 50 1125899906842623 _ (by omega)).mono ?_;rintro e w' ⟨rfl,rfl⟩);go_ret;exact ⟨by simp [ht'],rfl⟩
theorem uo (x:Int) (w:World) (h0:0<=x) (h1:x<=18446744073709551615):
 Calls Tryz.prog 185 #[.int .u64 x] w fun e w'=>e=.returned (.int .u64 (dG x))∧w'=w:=by
 have H:=hid (eE 44 (x/1024) 17592186044415 rfl (by omega) (by omega) (by omega));go_enter Tryz.func185,Tryz.ntmps185;go_wp2_with (go_at_call 81;refine (dt 44 17592186044415 _ (by omega)).mono ?_;rintro e w' ⟨rfl,rfl⟩);go_ret;exact ⟨dH H.out,rfl⟩
theorem uq (x:Int) (w:World) (h0:0<=x) (h1:x<=18446744073709551615):
 Calls Tryz.prog 191 #[.int .u64 x] w fun e w'=>e=.returned (.int .u64 (x/18014398509481984%1024))∧w'=w:=by
 have H:Hid (x/18014398509481984=x/18014398509481984%1024):=show _=_ by omega
 go_enter Tryz.func191,Tryz.ntmps191;go_wp2_with fail;go_ret;exact ⟨dH H.out,rfl⟩
def rE (x:Int):Bool:=bR x 1 && (x/18014398509481984%1024 == 0) && !(bR x 4 && !bR x 2)
theorem jJ (x:Int) (w:World) (h0:0<=x) (h1:x<=18446744073709551615):
 Calls Tryz.prog 189 #[.int .u64 x] w fun e w'=>e=.returned (.bool (rE x))∧w'=w:=by
 have HV:=hid (dI 0 x 1 rfl (by omega) h0 h1);have HR:=hid (dI 1 x 2 rfl (by omega) h0 h1);have HW:=hid (dI 2 x 4 rfl (by omega) h0 h1);cases hw:bR x 4 <;> cases hr:bR x 2 <;> cases hv:bR x 1;all_goals
  go_enter Tryz.func189,Tryz.ntmps189;go_wp2_with (first
   | (go_at_call 130;refine (dE x _ _).mono ?_;rintro e w' ⟨rfl,rfl⟩;first | rw [HW.out,hw] | rw [HR.out,hr] | rw [HV.out,hv])
   | (go_at_call 191;refine (uq x _ h0 h1).mono ?_;rintro e w' ⟨rfl,rfl⟩))
  all_goals
   go_ret;exact ⟨aE (by simp [rE,hw,hr,hv];try assumption),rfl⟩
theorem rF (x level:Int) (w:World) (h0:0<=x) (h1:x<=18446744073709551615) (hl:level=0∨level=1∨level=2):
 Calls Tryz.prog 190 #[.int .u64 x,.int .i64 level] w fun e w'=>e=.returned (.bool (dG x%iy level == 0))∧w'=w:=by
 have hpp:0<=dG x∧dG x<17592186044416:=⟨Int.emod_nonneg _ (by omega),Int.emod_lt_of_pos _ (by omega)⟩;have HP:∀w,Hid (Calls Tryz.prog 185 #[.int .u64 x] w fun e w'=>e=.returned (.int .u64 (dG x))∧w'=w):=fun w=>uo x w h0 h1;generalize dG x=p at *;rcases hl with rfl | rfl | rfl
 ·have H:Hid ((bits .and .u64 p 0 == 0)=(p%iy 0 == 0)):=by
   show _=_;rw [eE 0 p 0 rfl (by omega) hpp.1 (by omega)];rfl
  go_enter Tryz.func190,Tryz.ntmps190;go_wp2_with (first
   | (go_at_call 185;refine ((HP _).out).mono ?_;rintro e w' ⟨rfl,rfl⟩)
   | (go_at_call 81;refine (dt 0 0 _ (by omega)).mono ?_;rintro e w' ⟨rfl,rfl⟩))
  go_ret;exact ⟨aE H.out,rfl⟩
 ·have H:Hid ((bits .and .u64 p 7 == 0)=(p%iy 1 == 0)):=by
   show _=_;rw [eE 3 p 7 rfl (by omega) hpp.1 (by omega)];rfl
  go_enter Tryz.func190,Tryz.ntmps190;go_wp2_with (first
   | (go_at_call 185;refine ((HP _).out).mono ?_;rintro e w' ⟨rfl,rfl⟩)
   | (go_at_call 81;refine (dt 3 7 _ (by omega)).mono ?_;rintro e w' ⟨rfl,rfl⟩))
  go_ret;exact ⟨aE H.out,rfl⟩
 ·have H:Hid ((bits .and .u64 p 63 == 0)=(p%iy 2 == 0)):=by
   show _=_;rw [eE 6 p 63 rfl (by omega) hpp.1 (by omega)];rfl
  go_enter Tryz.func190,Tryz.ntmps190;go_wp2_with (first
   | (go_at_call 185;refine ((HP _).out).mono ?_;rintro e w' ⟨rfl,rfl⟩)
   | (go_at_call 81;refine (dt 6 63 _ (by omega)).mono ?_;rintro e w' ⟨rfl,rfl⟩))
  go_ret;exact ⟨aE H.out,rfl⟩
theorem dB (l:Int) (w:World):
 Calls Tryz.prog 128 #[.int .i64 l] w fun e w'=>e=.returned (.bool (decide (0<=l∧l<=2)))∧w'=w:=by
 by_cases h:0<=l
 ·go_enter Tryz.func128,Tryz.ntmps128;go_wp2_with fail;go_ret;exact ⟨aE (by simp [h]),rfl⟩
 ·go_enter Tryz.func128,Tryz.ntmps128;go_wp2_with fail;go_ret;exact ⟨aE (by simp;omega),rfl⟩
theorem nX (x level:Int) (w:World) (h0:0<=x) (h1:x<=18446744073709551615):
 Calls Tryz.prog 187 #[.int .u64 x,.int .i64 level] w fun e w'=>e=.returned (.int .i64 (bC x level))∧w'=w:=by
 by_cases hlev:0<=level∧level<=2
 ·have hk:decide (0<=level∧level<=2)=true:=by simpa using hlev
  have HK:=hid hk;have hl:level=0∨level=1∨level=2:=by omega
  clear hk hlev;have HR:=hid (AU x h0 h1);have HU:=hid (AV x h0 h1);cases hs:rE x
  ·have HE:Hid (bC x level=0):=by
    show _=_;simp only [bC];rw [if_pos];simp only [rE] at hs;cases hv:bR x 1
    ·simp
    ·rw [hv] at hs;by_cases hb:0<x/18014398509481984%1024
     ·simp [hb]
     ·have hb':x/18014398509481984%1024=0:=by omega
      rw [hb'] at hs |-;simp at hs;simp [hs]
   go_enter Tryz.func187,Tryz.ntmps187;go_wp2_with (first
    | (go_at_call 128;refine (dB level _).mono ?_;rintro e w' ⟨rfl,rfl⟩;rw [HK.out])
    | (go_at_call 189;refine (jJ x _ h0 h1).mono ?_;rintro e w' ⟨rfl,rfl⟩;rw [hs]))
   go_ret;exact ⟨cx HE.out.symm,rfl⟩
  ·have hn:¬(level<0∨2<level∨bR x 1=false∨0<x/18014398509481984%1024∨(bR x 4=true∧bR x 2=false)):=by
    simp only [rE,Bool.and_eq_true,beq_iff_eq,Bool.not_eq_true',Bool.and_eq_false_iff,Bool.not_eq_false'] at hs;obtain ⟨⟨a1,a2⟩,a3⟩:=hs;rw [a1,a2];rcases a3 with a3 | a3
    ·simp [a3];omega
    ·simp [a3];omega
   have HE:Hid (bC x level=if bR x 2=false∧bR x 4=false∧bR x 8=false then (if level=0∨bR x 16=true∨bR x 64=true∨bR x 128=true then 0 else 1) else if 0<dG x%iy level then 0 else 2):=by
    show _=_;rw [bC,if_neg hn]
   clear hn;cases hr:(bR x 2 || bR x 4 || bR x 8)
   ·simp only [Bool.or_eq_false_iff] at hr;have HE2:Hid (bC x level=if level=0∨bR x 16=true∨bR x 64=true∨bR x 128=true then 0 else 1):=by
     show _=_;rw [HE.out,if_pos ⟨hr.1.1,hr.1.2,hr.2⟩]
    clear HE;have HR':Hid (wm x 14=false):=by show _=_;rw [HR.out,hr.1.1,hr.1.2,hr.2];rfl
    clear HR hr;by_cases hz:level=0
    ·subst hz;go_enter Tryz.func187,Tryz.ntmps187;go_wp2_with (first
      | (go_at_call 128;refine (dB 0 _).mono ?_;rintro e w' ⟨rfl,rfl⟩;rw [HK.out])
      | (go_at_call 189;refine (jJ x _ h0 h1).mono ?_;rintro e w' ⟨rfl,rfl⟩;rw [hs])
      | (go_at_call 130;refine (dE x _ _).mono ?_;rintro e w' ⟨rfl,rfl⟩;rw [HR'.out]))
     go_ret;exact ⟨cx (by rw [HE2.out];simp),rfl⟩
    ·have hz':(level == 0)=false:=by simpa using hz
     cases hu:(bR x 16 || bR x 64 || bR x 128)
     ·have HE3:Hid (bC x level=1):=by
       show _=_;simp only [Bool.or_eq_false_iff] at hu;rw [HE2.out,hu.1.1,hu.1.2,hu.2];simp [hz]
      go_enter Tryz.func187,Tryz.ntmps187;go_wp2_with (first
       | (go_at_call 128;refine (dB level _).mono ?_;rintro e w' ⟨rfl,rfl⟩;rw [HK.out])
       | (go_at_call 189;refine (jJ x _ h0 h1).mono ?_;rintro e w' ⟨rfl,rfl⟩;rw [hs])
       | (go_at_call 130;refine (dE x _ _).mono ?_;rintro e w' ⟨rfl,rfl⟩;first | rw [HR'.out] | rw [HU.out,hu]))
      go_ret;exact ⟨cx HE3.out.symm,rfl⟩
     ·have HE3:Hid (bC x level=0):=by
       show _=_;simp only [Bool.or_eq_true] at hu;rw [HE2.out,if_pos];rcases hu with (hu | hu) | hu <;> simp [hu]
      go_enter Tryz.func187,Tryz.ntmps187;go_wp2_with (first
       | (go_at_call 128;refine (dB level _).mono ?_;rintro e w' ⟨rfl,rfl⟩;rw [HK.out])
       | (go_at_call 189;refine (jJ x _ h0 h1).mono ?_;rintro e w' ⟨rfl,rfl⟩;rw [hs])
       | (go_at_call 130;refine (dE x _ _).mono ?_;rintro e w' ⟨rfl,rfl⟩;first | rw [HR'.out] | rw [HU.out,hu]))
      go_ret;exact ⟨cx HE3.out.symm,rfl⟩
   ·have HR':Hid (wm x 14=true):=by show _=_;rw [HR.out,hr]
    have HE2:Hid (bC x level=if 0<dG x%iy level then 0 else 2):=by
     show _=_;rw [HE.out,if_neg];rintro ⟨q1,q2,q3⟩;rw [q1,q2,q3] at hr;cases hr
    clear HE HR hr;have hnn:0<=dG x%iy level:=by
     apply Int.emod_nonneg;rcases hl with rfl | rfl | rfl <;> decide
    cases ha:(dG x%iy level == 0)
    ·have HE3:Hid (bC x level=0):=by
      show _=_;have:dG x%iy level≠0:=by simpa using ha
      rw [HE2.out,if_pos (by omega)]
     clear hnn;go_enter Tryz.func187,Tryz.ntmps187;go_wp2_with (first
      | (go_at_call 128;refine (dB level _).mono ?_;rintro e w' ⟨rfl,rfl⟩;rw [HK.out])
      | (go_at_call 189;refine (jJ x _ h0 h1).mono ?_;rintro e w' ⟨rfl,rfl⟩;rw [hs])
      | (go_at_call 130;refine (dE x _ _).mono ?_;rintro e w' ⟨rfl,rfl⟩;rw [HR'.out])
      | (go_at_call 190;refine (rF x level _ h0 h1 hl).mono ?_;rintro e w' ⟨rfl,rfl⟩;rw [ha]))
     go_ret;exact ⟨cx HE3.out.symm,rfl⟩
    ·have HE3:Hid (bC x level=2):=by
      show _=_;have:dG x%iy level=0:=by simpa using ha
      rw [HE2.out,if_neg (by omega)]
     clear hnn;go_enter Tryz.func187,Tryz.ntmps187;go_wp2_with (first
      | (go_at_call 128;refine (dB level _).mono ?_;rintro e w' ⟨rfl,rfl⟩;rw [HK.out])
      | (go_at_call 189;refine (jJ x _ h0 h1).mono ?_;rintro e w' ⟨rfl,rfl⟩;rw [hs])
      | (go_at_call 130;refine (dE x _ _).mono ?_;rintro e w' ⟨rfl,rfl⟩;rw [HR'.out])
      | (go_at_call 190;refine (rF x level _ h0 h1 hl).mono ?_;rintro e w' ⟨rfl,rfl⟩;rw [ha]))
     go_ret;exact ⟨cx HE3.out.symm,rfl⟩
 ·have HK:Hid (decide (0<=level∧level<=2)=false):=by show _=_;simpa using hlev
  have HE:Hid (bC x level=0):=by
   show _=_;rw [bC,if_pos (by omega)]
  clear hlev;go_enter Tryz.func187,Tryz.ntmps187;go_wp2_with (go_at_call 128;refine (dB level _).mono ?_;rintro e w' ⟨rfl,rfl⟩;rw [HK.out]);go_ret;exact ⟨cx HE.out.symm,rfl⟩
end Go.Proofs.YtpdddbobhndbjaaGreat
