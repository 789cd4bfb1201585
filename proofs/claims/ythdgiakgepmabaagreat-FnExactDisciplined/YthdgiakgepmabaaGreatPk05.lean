import Derived.Test.YthdgiakgepmabaaGreatPk04
import Derived.StillTailTactics
namespace Go.Proofs.YthdgiakgepmabaaGreat
open Go.RowKit
set_option linter.unusedVariables false
set_option maxHeartbeats 6400000
set_option maxRecDepth 20000
structure HartM where
 mem:List Int
 regs:List Int
 pc:Int
 mode:Int
 sum:Bool
 mxr:Bool
 satp:Int
 tvec:Int
 epc:Int
 emode:Int
 cause:Int
 tval:Int
 k:KM
structure RunM where
 h:HartM
 cause:Int
 tval:Int
 looks:List (Int × Int)
 fenced:Bool
 fence:FenceM
def ul:FenceM:=⟨false,0,false,0⟩
def cW (satp:Int):Bool:=satp/1152921504606846976%16 == 0 || satp/1152921504606846976%16 == 8
def df (n:Nat):Bool:=decide (n%64=0∧64<=n∧n<=4096)
def fl (h:HartM):Bool:=
 decide (h.regs.length=8) && (h.regs[0]?.getD 0 == 0) && decide (0<=h.mode∧h.mode<=2) && decide (0<=h.emode∧h.emode<=2) && cW h.satp && (h.tvec%4 == 0) && decide (0<=h.cause∧h.cause<=63)
def mr (h:HartM):Bool:=df h.mem.length && fl h && bj h.k
def aM (plain:Bool) (pick:Int) (h:HartM) (kind va:Int):(Int × Int) × KM:=
 if plain=true then (fB h.mem h.mode h.sum h.mxr h.satp kind va,h.k) else oe h.mem h.mode h.sum h.mxr h.satp h.k kind va pick
def withK (h:HartM) (k:KM):HartM:=⟨h.mem,h.regs,h.pc,h.mode,h.sum,h.mxr,h.satp,h.tvec,h.epc,h.emode,h.cause,h.tval,k⟩
def cL (h:HartM) (mem:List Int):HartM:=⟨mem,h.regs,h.pc,h.mode,h.sum,h.mxr,h.satp,h.tvec,h.epc,h.emode,h.cause,h.tval,h.k⟩
def fy (h:HartM) (regs:List Int):HartM:=⟨h.mem,regs,h.pc,h.mode,h.sum,h.mxr,h.satp,h.tvec,h.epc,h.emode,h.cause,h.tval,h.k⟩
def dy (h:HartM) (pc:Int):HartM:=⟨h.mem,h.regs,pc,h.mode,h.sum,h.mxr,h.satp,h.tvec,h.epc,h.emode,h.cause,h.tval,h.k⟩
def el (r:RunM) (h:HartM):RunM:=⟨h,r.cause,r.tval,r.looks,r.fenced,r.fence⟩
def cf (r:RunM) (cause tval:Int):RunM:=⟨r.h,cause,tval,r.looks,r.fenced,r.fence⟩
def ed (plain:Bool) (pick:Int) (r:RunM) (kind va:Int):RunM:=
 ⟨withK r.h (aM plain pick r.h kind va).2,r.cause,r.tval,r.looks++[(kind,va)],r.fenced,r.fence⟩
abbrev be:=Int × Int × Int
def nQ (va w:Int):List be:=
 if 64-va%64<w then [(va,64-va%64,0),((va+(64-va%64))%18446744073709551616,w-(64-va%64),0)] else [(va,w,0)]
def ab (plain:Bool) (pick kind:Int):RunM->List be->RunM × List be
 | r,[]=>(r,[])
 | r,p::ps=>
  if (aM plain pick r.h kind p.1).1.1=0 then
   ((ab plain pick kind (ed plain pick r kind p.1) ps).1,(p.1,p.2.1,(aM plain pick r.h kind p.1).1.2)::(ab plain pick kind (ed plain pick r kind p.1) ps).2)
  else (cf (ed plain pick r kind p.1) (aM plain pick r.h kind p.1).1.1 p.1,p::ps)
def eZ (mem:List Int):List be->Option Int
 | []=>none
 | p::ps=>if fG mem.length p.2.2 p.2.1=true then eZ mem ps else some p.1
def az (plain:Bool) (pick:Int) (r:RunM) (kind va w:Int):RunM × List be:=
 if (ab plain pick kind r (nQ va w)).1.cause=0 then
  match eZ (ab plain pick kind r (nQ va w)).1.h.mem (ab plain pick kind r (nQ va w)).2 with
  | none=>ab plain pick kind r (nQ va w)
  | some v=>(cf (ab plain pick kind r (nQ va w)).1 (bq kind) v,(ab plain pick kind r (nQ va w)).2)
 else ab plain pick kind r (nQ va w)
def bH (mem:List Int):List be->List Int
 | []=>[]
 | p::ps=>(mem.drop p.2.2.toNat).take p.2.1.toNat++bH mem ps
def mf (mem:List Int) (ps:List be):Int:=num (bH mem ps)
def jy:List Int->List be->List Int->List Int
 | mem,[],_=>mem
 | mem,p::ps,b=>jy (put mem p.2.2.toNat (b.take p.2.1.toNat)) ps (b.drop p.2.1.toNat)
def BS (h:HartM) (a:Int):Int:=h.regs[a.toNat]?.getD 0
def cE (r:RunM) (a x:Int):RunM:=el r (fy r.h (if 0<a then r.h.regs.set a.toNat x else r.h.regs))
def gY (s:Int):Int:=if 128<=s then s-256 else s
def jY (n:Int):Int:=2^n.toNat
def cz (op c mode:Int):Bool:=
 decide (9<=op∧op<=11∧mode=0) || decide ((op=12∨op=13)∧mode≠2) || decide (op=13∧2<c)
def iy (h:HartM) (a b:Int):FenceM:=⟨decide (a≠0),BS h a,decide (b≠0),BS h b%65536⟩
def fA (k:KM) (f:FenceM):KM:=⟨eL k.i f,eL k.d f,eL k.p f⟩
def eS (plain:Bool) (pick:Int) (r:RunM) (ea w a:Int):RunM:=
 if (az plain pick r 1 ea w).1.cause=0 then cE (az plain pick r 1 ea w).1 a (mf (az plain pick r 1 ea w).1.h.mem (az plain pick r 1 ea w).2) else (az plain pick r 1 ea w).1
def fm (t:RunM × List be) (b:List Int):RunM:=el t.1 (cL t.1.h (jy t.1.h.mem t.2 b))
def dE (plain:Bool) (pick:Int) (r:RunM) (ea w x:Int):RunM:=
 if (az plain pick r 2 ea w).1.cause=0 then fm (az plain pick r 2 ea w) (br x w.toNat) else (az plain pick r 2 ea w).1
def iH (plain:Bool) (pick:Int) (r:RunM) (ea a x:Int):RunM:=
 if (az plain pick r 2 ea 8).1.cause=0 then cE (fm (az plain pick r 2 ea 8) (br ((mf (az plain pick r 2 ea 8).1.h.mem (az plain pick r 2 ea 8).2+x)%18446744073709551616) 8)) a (mf (az plain pick r 2 ea 8).1.h.mem (az plain pick r 2 ea 8).2) else (az plain pick r 2 ea 8).1
def eaM (h:HartM) (b s:Int):Int:=(BS h b+gY s)%18446744073709551616
def doM (plain:Bool) (pick:Int) (r:RunM) (pc op a b c s word:Int):RunM:=
 if cz op c r.h.mode=true then cf r 2 word
 else if op=1 then cE r a (gY s%18446744073709551616)
 else if op=2 then cE r a ((BS r.h b+BS r.h c)%18446744073709551616)
 else if op=3 then cE r a (eaM r.h b s)
 else if op=4 then cE r a (BS r.h b*jY (s%64)%18446744073709551616)
 else if op=5 then eS plain pick r (eaM r.h b s) (jY (c%4)) a
 else if op=6 then dE plain pick r (eaM r.h b s) (jY (c%4)) (BS r.h a)
 else if op=7 then iH plain pick r (eaM r.h b s) a (BS r.h c)
 else if op=8 then (if BS r.h a=BS r.h b then r else el r (dy r.h ((pc+4*gY s)%18446744073709551616)))
 else if op=9 then (if cW (BS r.h a)=true then el r ⟨r.h.mem,r.h.regs,r.h.pc,r.h.mode,r.h.sum,r.h.mxr,BS r.h a,r.h.tvec,r.h.epc,r.h.emode,r.h.cause,r.h.tval,r.h.k⟩ else r)
 else if op=10 then el r ⟨r.h.mem,r.h.regs,r.h.pc,r.h.mode,aZ (BS r.h a) 1,aZ (BS r.h a) 2,r.h.satp,r.h.tvec,r.h.epc,r.h.emode,r.h.cause,r.h.tval,r.h.k⟩
 else if op=11 then ⟨if plain=true then r.h else withK r.h (fA r.h.k (iy r.h a b)),r.cause,r.tval,r.looks,true,iy r.h a b⟩
 else if op=12 then el r ⟨r.h.mem,r.h.regs,(r.h.epc+4*gY s)%18446744073709551616,r.h.emode,r.h.sum,r.h.mxr,r.h.satp,r.h.tvec,r.h.epc,r.h.emode,r.h.cause,r.h.tval,r.h.k⟩
 else if op=13 then el r ⟨r.h.mem,r.h.regs,r.h.pc,r.h.mode,r.h.sum,r.h.mxr,r.h.satp,r.h.tvec,BS r.h a,c,r.h.cause,r.h.tval,r.h.k⟩
 else if op=14 then cf r (8+r.h.mode) 0
 else cf r 2 word
def kC (plain:Bool) (pick:Int) (r:RunM) (op p q s word:Int):RunM:=
 doM plain pick (el r (dy r.h ((r.h.pc+4)%18446744073709551616))) r.h.pc op (p%8) (p/8%8) (q%8) s word
def cu (t:TlbM) (n:Int):TlbM:=⟨t.sets,t.ways,t.es.set (n%t.es.length).toNat bC⟩
def dz (plain:Bool) (pick:Int) (k:KM):KM:=
 if 128<=pick∧plain=false then ⟨cu k.i (pick-128),cu k.d (pick-128),cu k.p (pick-128)⟩ else k
def fF (plain:Bool) (pick:Int) (h:HartM):Int:=rdV h.mem (aM plain pick h 0 h.pc).1.2 4
def CD (plain:Bool) (pick:Int) (r:RunM) (x:Int):RunM:=kC plain pick r (x%256) (x/256%256) (x/65536%256) (x/16777216) x
def bU (plain:Bool) (pick:Int) (r:RunM):RunM:=
 if r.h.pc%4=0 then
  if (aM plain pick r.h 0 r.h.pc).1.1=0 then
   if dL r.h.mem.length (aM plain pick r.h 0 r.h.pc).1.2 4=true then CD plain pick (ed plain pick r 0 r.h.pc) (fF plain pick r.h)
   else cf (ed plain pick r 0 r.h.pc) 1 r.h.pc
  else cf (ed plain pick r 0 r.h.pc) (aM plain pick r.h 0 r.h.pc).1.1 r.h.pc
 else cf r 20 r.h.pc
def nZ (plain:Bool) (pick:Int) (h:HartM):RunM:=⟨withK h (dz plain pick h.k),0,0,[],false,ul⟩
def vp (h:HartM) (r:RunM):HartM:=⟨h.mem,h.regs,h.tvec,2,h.sum,h.mxr,h.satp,h.tvec,h.pc,h.mode,r.cause,r.tval,r.h.k⟩
def jz (h:HartM) (r:RunM):RunM:=if r.cause=0 then r else el r (vp h r)
def aW (plain:Bool) (pick:Int) (h:HartM):RunM:=jz h (bU plain pick (nZ plain pick h))
structure EvM where
 pc:Int
 mode:Int
 cause:Int
 tval:Int
def atM (b:List Int) (i:Nat):Int:=b[i]?.getD 0
def dC (b:List Int) (i:Nat):Int:=num ((List.range 8).map fun k=>atM b (i+k))
def ct (y:Int):TlbM:=⟨2^(y%4).toNat,1+y/4%4,List.replicate (2^(y%4).toNat*(1+y/4%4).toNat) bC⟩
def Da (b:List Int):Nat->Nat->Nat->List Int->List Int
 | 0,_,_,mem=>mem
 | m+1,i,a,mem=>Da b m (i+1) (a+1) (if a<mem.length then mem.set a (atM b i) else mem)
def pP (b:List Int) (i:Nat):Nat:=(atM b i+256*atM b (i+1)).toNat
def iX (b:List Int):Nat->Nat->List Int->List Int × Nat
 | 0,i,mem=>(mem,i)
 | n+1,i,mem=>iX b n (i+3+(atM b (i+2)).toNat) (Da b (atM b (i+2)).toNat (i+3) (pP b i) mem)
def bf (y:Int):Int:=if y%4=3 then 1 else y%4
def qQ (b:List Int):Nat:=min (atM b 5+256*atM b 6).toNat 20000
def oW (b:List Int):List Int × Nat:=iX b (atM b 87).toNat 88 (List.replicate (64*(1+(atM b 3%64).toNat)) 0)
def oA (b:List Int):List Int:=0::(List.range 7).map fun r=>dC b (31+8*r)
def aC (b:List Int):HartM:=
 ⟨(oW b).1,oA b,dC b 7,bf (atM b 4),atM b 4/4%2 == 1,atM b 4/8%2 == 1,if cW (dC b 23)=true then dC b 23 else 0,dC b 15/4*4,0,bf (atM b 4),0,0,⟨ct (atM b 0),ct (atM b 1),ct (atM b 2)⟩⟩
def bh (b:List Int):List Int:=(List.range (qQ b)).map fun k=>atM b ((oW b).2+k)
theorem jQ (zs:List Int) (va:Int):∀(l:Nat) (n:Int),(aN zs va l n).1=1∨(aN zs va l n).1=2∨(aN zs va l n).1=3
 | 0,n=>by
  unfold aN;split
  ·simp
  ·split
   ·simp
   ·split <;> simp
 | l+1,n=>by
  unfold aN;split
  ·simp
  ·split
   ·simp
   ·split
    ·simp
    ·exact jQ zs va l _
theorem io (zs:List Int) (root va:Int):(aU zs root va).1=1∨(aU zs root va).1=2∨(aU zs root va).1=3:=by
 unfold aU;split
 ·simp
 ·exact jQ zs va 2 _
theorem uV (va level:Int) (h0:0<=level) (h2:level<=2):0<=cG va level∧cG va level<tW level:=by
 unfold cG tW;rcases (show level=0∨level=1∨level=2 by omega) with rfl | rfl | rfl <;> simp <;> omega
theorem lS {pte level:Int} (h:aV pte level≠0):0<=level∧level<=2:=by
 unfold aV at h;split at h
 ·exact absurd rfl h
 ·omega
theorem gX (level va satp pte:Int) (p:Bool) (hk:aV pte level=Cj p):aH (fw level va satp pte) p=true:=by
 have hl:=lS (by rw [hk];cases p <;> decide);have ht:=uV va level hl.1 hl.2;have ha:aB satp<=65535:=by unfold aB;omega
 simp [aH,fw,hl.1,hl.2,ht.2,ha,hk]
theorem sS (level va satp pte:Int) (p:Bool) (hk:aV pte level=Cj p):0<=(fw level va satp pte).tag:=by
 have hl:=lS (by rw [hk];cases p <;> decide);exact (uV va level hl.1 hl.2).1
theorem jV (va satp pick:Int):∀(rs:List aD) (p:TlbM),aF p true=true->aF (bF va satp pick rs p) true=true
 | [],p,h=>h
 | r::rs,p,h=>by
  rw [bF];refine jV va satp pick rs _ ?_;split
  ·rename_i hk;exact iw p _ pick true h (gX _ _ _ _ true hk) (sS _ _ _ _ true hk)
  ·exact h
theorem jW (zs:List Int) (va:Int):∀(l:Nat) (n:Int),(aN zs va l n).1=1->aV (aN zs va l n).2.2.1 (aN zs va l n).2.1=2
 | 0,n=>by
  intro h;unfold aN at h |-;split at h
  ·simp at h
  ·rename_i h1;rw [if_neg h1];split at h
   ·simp at h
   ·rename_i h2;rw [if_neg h2];split at h
    ·rename_i h3;rw [if_pos h3];exact h3
    ·simp at h
 | l+1,n=>by
  intro h;unfold aN at h |-;split at h
  ·simp at h
  ·rename_i h1;rw [if_neg h1];split at h
   ·simp at h
   ·rename_i h2;rw [if_neg h2];split at h
    ·rename_i h3;rw [if_pos h3];exact h3
    ·rename_i h3;rw [if_neg h3];exact jW zs va l _ h
theorem ui (zs:List Int) (root va:Int) (h:(aU zs root va).1=1):aV (aU zs root va).2.2.1 (aU zs root va).2.1=2:=by
 unfold aU at h |-;split at h
 ·simp at h
 ·rename_i hc;rw [if_neg hc];exact jW zs va 2 _ h
theorem iV (kind:Int):dI kind≠0:=by
 unfold dI;split
 ·decide
 ·split <;> decide
theorem fX (kind:Int):bq kind≠0:=by
 unfold bq;split
 ·decide
 ·split <;> decide
theorem oy (zs:List Int) (mode:Int) (sum mxr:Bool) (satp:Int) (k:KM) (kind va pick:Int) (hk:bj k=true) (h1:0<=kind∧kind<=2) (h2:0<=mode∧mode<=2) (h3:0<=pick∧pick<=255):
 bj (oe zs mode sum mxr satp k kind va pick).2=true:=by
 have hk':=hk;simp only [bj,Bool.and_eq_true] at hk';obtain ⟨⟨gi,gd⟩,gp⟩:=hk';unfold oe;rw [if_neg (by rw [hk];simp;omega)];split
 ·exact hk
 ·split
  ·exact hk
  ·split
   ·exact hk
   ·simp only;have gp':=jV va satp pick (aE zs satp va (aX k.p va (aB satp))).2.2.2 k.p gp;split
    ·rename_i ha;have hkind:aV (aE zs satp va (aX k.p va (aB satp))).2.2.1 (aE zs satp va (aX k.p va (aB satp))).2.1=2:=by
      have hcode:(aE zs satp va (aX k.p va (aB satp))).1=1:=by
       have hc:(aE zs satp va (aX k.p va (aB satp))).1=1∨(aE zs satp va (aX k.p va (aB satp))).1=2∨(aE zs satp va (aX k.p va (aB satp))).1=3:=by
        unfold aE;split
        ·exact jQ zs va _ _
        ·exact io zs satp va
       unfold bw at ha;rcases hc with hc | hc | hc
       ·exact hc
       ·rw [if_pos hc] at ha;exact absurd ha (iV kind)
       ·rw [if_neg (by rw [hc];decide),if_pos hc] at ha;exact absurd ha (fX kind)
      unfold aE at hcode |-;split at hcode
      ·rename_i hu;rw [if_pos hu];exact jW zs va _ _ hcode
      ·rename_i hu;rw [if_neg hu];exact ui zs satp va hcode
     have hge:=gX _ va satp _ false hkind;have hgt:=sS _ va satp _ false hkind;unfold qP du;split
     ·simp only [bj,Bool.and_eq_true];exact ⟨⟨iw _ _ pick false gi hge hgt,gd⟩,gp'⟩
     ·simp only [bj,Bool.and_eq_true];exact ⟨⟨gi,iw _ _ pick false gd hge hgt⟩,gp'⟩
    ·simp only [bj,Bool.and_eq_true];exact ⟨⟨gi,gd⟩,gp'⟩
abbrev aw:=Int × Int × Bool × aD
def dl (g:aw) (va asid:Int):Bool:=g.1 == cG va g.2.2.2.1 && (g.2.2.1 || g.2.1 == asid)
def fk (va satp:Int) (r:aD):aw:=(cG va r.1,aB satp,aZ r.2.2 32,r)
def yk (gs:List aw) (g:aw):List aw:=if g∈gs then gs else gs++[g]
def fC (h:HartM) (kind va:Int):List aD->List aw->List aw
 | [],gs=>gs
 | r::rs,gs=>fC h kind va rs (if (aV r.2.2 r.1 == 1 || bZ r.2.2 kind h.mode h.sum h.mxr)=true then yk gs (fk va h.satp r) else gs)
def jT (gs:List aw) (h:HartM) (va:Int):Bool:=
 gs.all fun g=>!dl g va (aB h.satp) || decide (g.2.2.2∈(aU h.mem h.satp va).2.2.2)
def cN (gs:List aw) (h:HartM) (look:Int × Int):Bool × List aw:=
 if onM h.mode h.satp=false∨bY look.2=false then (true,gs)
 else if jT gs h look.2=true then (true,fC h look.1 look.2 (aU h.mem h.satp look.2).2.2.2 gs) else (false,gs)
def aI (h:HartM):List (Int × Int)->List aw->Bool × List aw
 | [],gs=>(true,gs)
 | l::ls,gs=>if (cN gs h l).1=true then aI h ls (cN gs h l).2 else (false,(cN gs h l).2)
def gx (gs:List aw) (f:FenceM):List aw:=gs.filter fun g=>!By f g.2.2.2.1 g.1 g.2.1 g.2.2.1
def cO (r:RunM) (gs:List aw):List aw:=if r.fenced=true then gx gs r.fence else gs
def go:List Int->HartM->List aw->Nat->Bool × Nat
 | [],_,_,i=>(true,i)
 | p::ps,h,gs,i=>if (aI h (aW true p h).looks gs).1=true then go ps (aW true p h).h (cO (aW true p h) (aI h (aW true p h).looks gs).2) (i+1) else (false,i)
def sL (g:aw) (e:EntM):Prop:=g.1=e.tag∧g.2.1=e.asid∧g.2.2.1=e.glob∧g.2.2.2.1=e.level∧g.2.2.2.2.2=e.pte
def CovT (t:TlbM) (gs:List aw):Prop:=∀e∈t.es,e.valid=true->∃g∈gs,sL g e
def CovK (k:KM) (gs:List aw):Prop:=CovT k.i gs∧CovT k.d gs∧CovT k.p gs
theorem CovT.mono {t:TlbM} {gs gs':List aw} (h:CovT t gs) (hs:∀g∈gs,g∈gs'):CovT t gs':=fun e he hv=>by
 obtain ⟨g,hg,hs'⟩:=h e he hv;exact ⟨g,hs g hg,hs'⟩
theorem CovK.mono {k:KM} {gs gs':List aw} (h:CovK k gs) (hs:∀g∈gs,g∈gs'):CovK k gs':=⟨h.1.mono hs,h.2.1.mono hs,h.2.2.mono hs⟩
theorem CovT.insert {t:TlbM} {gs:List aw} {e:EntM} {pick:Int} (h:CovT t gs) (he:∃g∈gs,sL g e):CovT (cU t e pick) gs:=by
 unfold cU;split
 ·intro x hx hv;rcases List.mem_or_eq_of_mem_set hx with hx | rfl
  ·exact h x hx hv
  ·exact he
 ·exact h
theorem nX (va satp:Int) (r:aD):sL (fk va satp r) (fw r.1 va satp r.2.2):=⟨rfl,rfl,rfl,rfl,rfl⟩
theorem CovT.ptrs {gs:List aw} {va satp pick:Int}:∀(rs:List aD) (p:TlbM),CovT p gs->(∀r∈rs,aV r.2.2 r.1=1->fk va satp r∈gs)->CovT (bF va satp pick rs p) gs
 | [],p,h,_=>h
 | r::rs,p,h,hr=>by
  rw [bF];refine CovT.ptrs rs _ ?_ (fun x hx=>hr x (List.mem_cons_of_mem _ hx));split
  ·rename_i hk;exact h.insert ⟨_,hr r (List.mem_cons_self ..) hk,nX va satp r⟩
  ·exact h
theorem CovT.flush {t:TlbM} {gs:List aw} {f:FenceM} (h:CovT t gs) (he:fH t=true):CovT (eL t f) (gx gs f):=by
 unfold eL;rw [if_pos he];intro x hx hv;simp only [List.mem_map] at hx;obtain ⟨y,hy,rfl⟩:=hx;unfold gZ at hv |-;split at hv
 ·simp [bC] at hv
 ·rename_i hc;rw [if_neg hc];obtain ⟨g,hg,h1,h2,h3,h4,h5⟩:=h y hy hv;refine ⟨g,?_,h1,h2,h3,h4,h5⟩;simp only [gx,List.mem_filter,h1,h2,h3,h4,Bool.not_eq_true'];refine ⟨hg,?_⟩;simp only [hv,Bool.true_and,Bool.not_eq_true] at hc;exact hc
theorem iS (t:TlbM) (n:Int) (p:Bool) (hv:aF t p=true):aF (cu t n) p=true:=by
 have hs:=eM hv;refine oz ?_ ?_
 ·simp only [ik,cu,decide_eq_true_eq,List.length_set];exact hs
 ·intro j x hx;simp only [cu,List.getElem?_set] at hx;split at hx
  ·split at hx
   ·cases hx;simp [bL,bC]
   ·cases hx
  ·exact fx hv j x hx
theorem nY (plain:Bool) (pick:Int) (k:KM) (h:bj k=true):bj (dz plain pick k)=true:=by
 unfold dz;split
 ·simp only [bj,Bool.and_eq_true] at h |-;exact ⟨⟨iS _ _ _ h.1.1,iS _ _ _ h.1.2⟩,iS _ _ _ h.2⟩
 ·exact h
theorem lR (k:KM) (f:FenceM) (h:bj k=true):bj (fA k f)=true:=by
 simp only [bj,fA,Bool.and_eq_true] at h |-;exact ⟨⟨iW _ _ _ h.1.1,iW _ _ _ h.1.2⟩,iW _ _ _ h.2⟩
theorem CovK.flush {k:KM} {gs:List aw} {f:FenceM} (h:CovK k gs) (hk:bj k=true):CovK (fA k f) (gx gs f):=by
 simp only [bj,Bool.and_eq_true] at hk;exact ⟨h.1.flush (co hk.1.1),h.2.1.flush (co hk.1.2),h.2.2.flush (co hk.2)⟩
theorem au {v:World} {p:Nat} {T:TypeId} {a b c:Value} (h:v.heap[p]?=some (.cells #[a,b,c] T (0,0))):
 (v.cell? (AD p 0)=some a∧v.cell? (AD p 1)=some b∧v.cell? (AD p 2)=some c)∧v.frozen? (AD p 0)=false∧v.frozen? (AD p 1)=false∧v.frozen? (AD p 2)=false:=by
 simp [World.cell?,World.frozen?,h]
theorem zU {v:World} {p:Nat} {T:TypeId} {a b c u:Value} (h:v.heap[p]?=some (.cells #[a,b,c] T (0,0))):(v.setCell (AD p 0) u).heap[p]?=some (.cells #[u,b,c] T (0,0)):=by
 simp [World.setCell,Array.getElem?_modify,h]
theorem AS {v:World} {p:Nat} {T:TypeId} {a b c u:Value} (h:v.heap[p]?=some (.cells #[a,b,c] T (0,0))):(v.setCell (AD p 2) u).heap[p]?=some (.cells #[a,b,u] T (0,0)):=by
 simp [World.setCell,Array.getElem?_modify,h]
theorem gb3 (v:World) (g:Nat) (x y z:Value):v.grownBy (((v.setCell (AD g 0) x).setCell (AD g 1) y).setCell (AD g 2) z) (some g):=
 aj (aj (aj (cC v (some g)) 0 x) 1 y) 2 z
theorem iG {B:Nat} {a w:World} {g:Nat} (h:Below B a w) (hg:B<=g) (x y z:Value):Below B a (((w.setCell (AD g 0) x).setCell (AD g 1) y).setCell (AD g 2) z):=
 ((h.setCell (p:=(AD g 0)) hg x).setCell (p:=(AD g 1)) hg y).setCell (p:=(AD g 2)) hg z
theorem bD {e:TypeId} {size:Nat} {w:World} {base base' n:Nat} {v:Value} {cs:List Value} (h:w.ownsRow base e size v n cs) (hb:base'<=base):w.ownsRow base' e size v n cs:=by
 obtain ⟨h1,h2⟩:=h;refine ⟨h1,?_⟩;rcases h2 with h2 | ⟨g,cap,cur,h2,hb',r⟩
 ·exact .inl h2
 ·exact .inr ⟨g,cap,cur,h2,by omega,r⟩
theorem ao {e:TypeId} {size:Nat} {w w':World} {base n r:Nat} {v:Value} {cs:List Value} (h:w.ownsRow base e size v n cs) (hg:w.grownBy w' (some r)) (hr:r<base):w'.ownsRow base e size v n cs:=by
 refine h.kept hg ?_;rcases h.2 with ⟨rfl,_⟩ | ⟨g,cap,cur,rfl,hb',_⟩
 ·exact .inl rfl
 ·refine .inr ?_;simp [Value.ownBlock];omega
theorem cB {e:TypeId} {size:Nat} {w w':World} {base n:Nat} {v:Value} {cs:List Value} (h:w.ownsRow base e size v n cs) (hb:Bw w w'):w'.ownsRow base e size v n cs:=by
 obtain ⟨h1,h2⟩:=h;refine ⟨h1,?_⟩;rcases h2 with h2 | ⟨g,cap,cur,h2,hb',hg,r⟩
 ·exact .inl h2
 ·refine .inr ⟨g,cap,cur,h2,hb',?_,r⟩;exact ag hg hb (hpl hg)
theorem sO {P:Program} (w:World) {o:Oper} {a:Act} {K:Act->World->Prop} {Q:Exit->Act->World->Prop} (s x:Operand) (t:TypeId)
 (ho:o.op=.call { callee:=.builtin .append,args:=#[s,x],argTypes:=#[t,t] }) (e:TypeId) (ht:P.underlying t=some (.slice e)) (z:Value) (size bytes:Nat)
 (hi:(P.info? e).map (fun i=>(i.zero,i.size,i.bytes))=some (some z,size,bytes)) (hzs:z.cells.size=size) (hsz:0<size)
 (base n:Nat) (v:Value) (cs:List Value) (hs:a.eval s=v) (hown:w.ownsRow base e size v n cs)
 (b off m c:Nat) (ys:List Value) (hx:a.eval x=.slice (some (AD b off)) m c) (hm:0<m) (hy:RowC w (some (AD b off)) m size ys) (h1:∀u∈ys,u.oneCell'=true)
 (hbd:(n+m)*bytes<=140737488355328) (hbd':n+m<=9223372036854775807)
 (hbw:base<=w.heap.size) (B:Nat) (W:World) (hb:Below B W w) (hB:B<=base)
 (h:∀g' cap' w',w'.ownsRow base e size (SL g' (n+m) cap') (n+m) (cs++ys)->Below B W w'->K (a.put o.dst (SL g' (n+m) cap')) w'):o.wp P a w K Q:=by
 obtain ⟨i0,hi,hz0,hz1,hz2⟩:=info_parts hi;refine wp_append_own w s x t ho base e i0 z size bytes ht hi hz0 hz1 hz2 hzs hsz v n _ hs hown (AD b off) m c ys hx hy.1 (uw hy) h1 (by unfold maxLen;omega) hbd (by omega) ?_;intro v' w' h1 h2 h3;have hbl:=hb.grown h2 (by omega) (fun k hk=>by have:=(hown.lt k hk).1;omega);rcases h1.2 with ⟨e1,e2⟩ | ⟨g,cap,cur,e1,r⟩
 ·omega
 ·subst e1;exact h g cap w' h1 hbl
theorem DQ {P:Program} (w:World) {ops:Array Oper} {rest:List Oper} {o:Oper} {a:Act} {Q:Exit->Act->World->Prop} (hgd:o.guard=none) (s x:Operand) (t:TypeId)
 (ho:o.op=.call { callee:=.builtin .append,args:=#[s,x],argTypes:=#[t,t] }) (e:TypeId) (ht:P.underlying t=some (.slice e)) (z:Value) (size bytes:Nat)
 (hi:(P.info? e).map (fun i=>(i.zero,i.size,i.bytes))=some (some z,size,bytes)) (hzs:z.cells.size=size) (hsz:0<size)
 (base n:Nat) (v:Value) (cs:List Value) (hs:a.eval s=v) (hown:w.ownsRow base e size v n cs)
 (b off m c:Nat) (ys:List Value) (hx:a.eval x=.slice (some (AD b off)) m c) (hm:0<m) (hy:RowC w (some (AD b off)) m size ys) (h1:∀u∈ys,u.oneCell'=true)
 (hbd:(n+m)*bytes<=140737488355328) (hbd':n+m<=9223372036854775807)
 (hbw:base<=w.heap.size) (B:Nat) (W:World) (hb:Below B W w) (hB:B<=base)
 (h:∀g' cap' w',w'.ownsRow base e size (SL g' (n+m) cap') (n+m) (cs++ys)->Below B W w'->wpList P ops Q rest (a.put o.dst (SL g' (n+m) cap')) w'):wpList P ops Q (o::rest) a w:=
 wpList_plain hgd fun _ hK=>sO w s x t ho e ht z size bytes hi hzs hsz base n v cs hs hown b off m c ys hx hm hy h1 hbd hbd' hbw B W hb hB fun g' cap' w' h2 h3=>hK _ _ (h g' cap' w' h2 h3)
theorem sP {e:TypeId} {size:Nat} {w:World} {base n:Nat} {v:Value} {cs:List Value} (h:w.ownsRow base e size v n cs):w.drew.ownsRow base e size v n cs:=h
def CurAt (e:TypeId) (w:World) (g m:Nat) (cs:List Value):Prop:=cs.length=m∧∃cur,w.heap[g]?=some (.cells cur e (0,0))∧cur.toList.take m=cs
theorem CurAt.lt {e:TypeId} {w:World} {g m:Nat} {cs:List Value} (h:CurAt e w g m cs):g<w.heap.size:=by
 obtain ⟨_,cur,h2,_⟩:=h;exact (hpl h2)
theorem CurAt.cell {e:TypeId} {w:World} {g m:Nat} {cs:List Value} (h:CurAt e w g m cs) (j:Nat) (u:Value) (hj:cs[j]?=some u):w.cell? (AD g j)=some u:=by
 obtain ⟨h1,cur,h2,h3⟩:=h;subst h3;rw [List.getElem?_take] at hj;split at hj
 ·simp only [World.cell?,h2];simpa using hj
 ·cases hj
theorem CurAt.free {e:TypeId} {w:World} {g m:Nat} {cs:List Value} (h:CurAt e w g m cs) (j:Nat):w.frozen? (AD g j)=false:=by
 obtain ⟨h1,cur,h2,h3⟩:=h;simp [World.frozen?,h2]
theorem CurAt.store {e:TypeId} {w:World} {g m:Nat} {cs:List Value} (h:CurAt e w g m cs) (j:Nat) (u:Value):CurAt e (w.setCell (AD g j) u) g m (cs.set j u):=by
 obtain ⟨h1,cur,h2,h3⟩:=h;refine ⟨by simpa using h1,cur.setIfInBounds j u,by simp [World.setCell,Array.getElem?_modify,h2],?_⟩;subst h3;rw [Array.toList_setIfInBounds,List.take_set]
theorem CurAt.gb {e:TypeId} {w w':World} {g m r:Nat} {cs:List Value} (h:CurAt e w g m cs) (hg:w.grownBy w' (some r)) (hne:g≠r):CurAt e w' g m cs:=by
 obtain ⟨h1,cur,h2,h3⟩:=h;exact ⟨h1,cur,aq h2 hg hne,h3⟩
theorem CurAt.of_own {e:TypeId} {size:Nat} {w:World} {base g n cap:Nat} {cs:List Value} (h:w.ownsRow base e size (SL g n cap) n cs):CurAt e w g (n*size) cs∧base<=g:=by
 obtain ⟨h1,h2⟩:=h;rcases h2 with ⟨h2,_⟩ | ⟨g',cap',cur,h2,hb,hg,_,_,_,ht⟩
 ·cases h2
 ·cases h2;exact ⟨⟨h1,cur,hg,ht⟩,hb⟩
theorem cT {e:TypeId} {size:Nat} {w:World} {base n:Nat} {a:Option Addr} {cap:Nat} {cs:List Value} (h:w.ownsRow base e size (.slice a n cap) n cs):RowC w a n size cs:=by
 cases a with
 | none=>
  obtain ⟨h1,h2⟩:=h;rcases h2 with ⟨_,h2⟩ | ⟨g',cap',cur,h2,_⟩
  ·subst h2;exact ⟨h1,.inl rfl⟩
  ·cases h2
 | some q=>
  have hq:q=(AD q.block 0):=by
   obtain ⟨h1,h2⟩:=h;rcases h2 with ⟨h2,_⟩ | ⟨g',cap',cur,h2,_⟩
   ·cases h2
   ·cases h2;rfl
  rw [hq] at h |-;have:=CurAt.of_own h;refine ⟨h.1,.inr ⟨q.block,0,rfl,this.1.lt,fun i u hu=>?_⟩⟩;rw [Nat.zero_add];exact this.1.cell i u hu
theorem bx {e:TypeId} {size:Nat} {w:World} {base n cap:Nat} {q:Addr} {cs:List Value} (h:w.ownsRow base e size (.slice (some q) n cap) n cs):q=(AD q.block 0)∧base<=q.block∧q.block<w.heap.size:=by
 rcases h.2 with ⟨h2,_⟩ | ⟨g',cap',cur,h2,hb,hg,_⟩
 ·cases h2
 ·cases h2;exact ⟨rfl,hb,(hpl hg)⟩
theorem cP {a b c:World} {r:Option Nat} (h:a.grownBy b r) (k:b.grownBy c r):a.grownBy c r:=
 ⟨k.os.trans h.os,k.tape.trans h.tape,k.output.trans h.output,Nat.le_trans h.size k.size,fun i hi hn=>(k.block i (ltl hi h.size) hn).trans (h.block i hi hn)⟩
theorem ae {w w':World} {b:Nat} {o:Obj} (h:Hid (w.heap[b]?=some o)) (n:Bw w w'):Hid (w'.heap[b]?=some o):=ag h.out n (hpl h.out)
theorem aJ {e:TypeId} {size:Nat} {w:World} {base g n cap:Nat} {cs:List Value} (h:w.ownsRow base e size (SL g n cap) n cs) (j:Nat) (u:Value):
 (w.setCell (AD g j) u).ownsRow base e size (SL g n cap) n (cs.set j u):=by
 obtain ⟨h1,h2⟩:=h;refine ⟨by simpa using h1,?_⟩;rcases h2 with ⟨h2,_⟩ | ⟨g',cap',cur,h2,hb,hg,hc1,hc2,hc3,ht⟩
 ·cases h2
 ·cases h2;refine .inr ⟨g,cap,cur.setIfInBounds j u,rfl,hb,by simp [World.setCell,Array.getElem?_modify,hg],hc1,hc2,by simpa using hc3,?_⟩;subst ht;rw [Array.toList_setIfInBounds,List.take_set]
theorem aK {e:TypeId} {size:Nat} {w:World} {base g n cap:Nat} {cs:List Value} (h:w.ownsRow base e size (SL g n cap) n cs) (j:Nat) (u:Value) (hj:cs[j]?=some u):w.cell? (AD g j)=some u:=
 (CurAt.of_own h).1.cell j u hj
theorem aT {e:TypeId} {size:Nat} {w:World} {base g n cap:Nat} {cs:List Value} (h:w.ownsRow base e size (SL g n cap) n cs) (j:Nat):w.frozen? (AD g j)=false:=
 (CurAt.of_own h).1.free j
theorem iQ {a b c:World} {r:Option Nat} (h:a.grownBy b r) (k:Bw b c):a.grownBy c r:=
 ⟨k.os.trans h.os,k.tape.trans h.tape,k.output.trans h.output,Nat.le_trans h.size k.size,fun i hi hn=>(k.block i (ltl hi h.size)).trans (h.block i hi hn)⟩
theorem qM {a b:World} {r g o:Nat} {x:Option Value} (h:a.grownBy b (some r)) (hc:a.cell? (AD g o)=x) (hg:g<a.heap.size) (hne:g≠r):b.cell? (AD g o)=x:=
 (World.cell?_of_block (h.block g hg (by simpa using hne))).trans hc
theorem FV {a b:World} {r n size:Nat} {q:Option Addr} {cs:List Value} (h:RowC a q n size cs) (hg:a.grownBy b (some r)) (hr:a.heap.size<=r∨∀x,q=some x->x.block≠r):RowC b q n size cs:=by
 obtain ⟨h1,h2⟩:=h;refine ⟨h1,?_⟩;rcases h2 with h2 | ⟨bk,off,rfl,hlt,hc⟩
 ·exact .inl h2
 ·refine .inr ⟨bk,off,rfl,ltl hlt hg.size,fun i u hu=>?_⟩;exact qM hg (hc i u hu) hlt (by
   rcases hr with hr | hr
   ·omega
   ·exact hr _ rfl)
theorem bM {P:Program} {id:Nat} {Q:Exit->Act->World->Prop} {a:Act} {w:World} {l:List Oper} (n:Nat) (hm:P.follows .mixedOrders=true) (hB:Region.lexTailB .any l.toArray n=true)
 (h:wpStill P l.toArray w.drew (fun a'=>wpList P l.toArray Q (l.drop n) a' w.drew) (l.take n) a):(Code.region id l.toArray true).wp P Q a w:=
 wp_region_still_tail n hm hB h
theorem sJ (a k:Nat):(a &&& 2^k != 0)=(a/2^k%2 == 1):=by
 have e:(a/2^k%2 == 1)=a.testBit k:=by rw [Nat.testBit_eq_decide_div_mod_eq];rfl
 rw [e];cases h:a.testBit k
 ·have:a &&& 2^k=0:=by
   apply Nat.eq_of_testBit_eq;intro i;rw [Nat.testBit_and,Nat.testBit_two_pow,Nat.zero_testBit];by_cases hi:k=i
   ·subst hi;simp [h]
   ·simp [hi]
  simp [this]
 ·have:a &&& 2^k≠0:=by
   intro h0;have:=congrArg (fun n=>n.testBit k) h0;simp [Nat.testBit_and,h] at this
  simpa using this
theorem iq (a m n:Nat):(a &&& (m ||| n) != 0)=((a &&& m != 0) || (a &&& n != 0)):=by
 rw [Nat.and_or_distrib_left];cases h:(a &&& m != 0) <;> cases h':(a &&& n != 0) <;> simp_all [Nat.or_eq_zero_iff]
def sK (x m:Int):Bool:=bits .and .u64 x m != 0
theorem B9 (a m:Nat) (ha:a<18446744073709551616) (hm:m<18446744073709551616):sK a m=(a &&& m != 0):=by
 rw [sK,u64_and_nat a m ha hm];cases h:(a &&& m != 0)
 ·simp at h;simp [h]
 ·simp at h;simp;omega
theorem bX (k:Nat) (x p:Int) (hp:p=2^k) (hk:p<18446744073709551616) (h0:0<=x) (h1:x<=18446744073709551615):sK x p=aZ x p:=by
 obtain ⟨a,rfl⟩:=Int.eq_ofNat_of_zero_le h0;have e:p=((2^k:Nat):Int):=by rw [hp];push_cast;rfl
 rw [e] at hk |-;rw [B9 a (2^k) (by omega) (by omega),sJ,aZ];rw [show ((a:Int)/((2^k:Nat):Int)%2)=((a/2^k%2:Nat):Int) by omega];generalize a/2^k%2=t;rw [Bool.eq_iff_iff];simp only [beq_iff_eq];omega
theorem yh (x:Int) (h0:0<=x) (h1:x<=18446744073709551615):sK x 14=(aZ x 2 || aZ x 4 || aZ x 8):=by
 rw [<-bX 1 x 2 rfl (by omega) h0 h1,<-bX 2 x 4 rfl (by omega) h0 h1,<-bX 3 x 8 rfl (by omega) h0 h1];obtain ⟨a,rfl⟩:=Int.eq_ofNat_of_zero_le h0;rw [show (14:Int)=((14:Nat):Int) from rfl,show (2:Int)=((2:Nat):Int) from rfl,show (4:Int)=((4:Nat):Int) from rfl,show (8:Int)=((8:Nat):Int) from rfl];rw [B9 a 14 (by omega) (by omega),B9 a 2 (by omega) (by omega),B9 a 4 (by omega) (by omega),B9 a 8 (by omega) (by omega)];rw [<-iq,<-iq];rfl
theorem yi (x:Int) (h0:0<=x) (h1:x<=18446744073709551615):sK x 208=(aZ x 16 || aZ x 64 || aZ x 128):=by
 rw [<-bX 4 x 16 rfl (by omega) h0 h1,<-bX 6 x 64 rfl (by omega) h0 h1,<-bX 7 x 128 rfl (by omega) h0 h1];obtain ⟨a,rfl⟩:=Int.eq_ofNat_of_zero_le h0;rw [show (208:Int)=((208:Nat):Int) from rfl,show (16:Int)=((16:Nat):Int) from rfl,show (64:Int)=((64:Nat):Int) from rfl,show (128:Int)=((128:Nat):Int) from rfl];rw [B9 a 208 (by omega) (by omega),B9 a 16 (by omega) (by omega),B9 a 64 (by omega) (by omega),B9 a 128 (by omega) (by omega)];rw [<-iq,<-iq];rfl
theorem pI (k:Nat) (x m P:Int) (hP:P=2^k) (hm:m=P-1) (hk:m<18446744073709551616) (h0:0<=x) (h1:x<=18446744073709551615):bits .andNot .u64 x m=x/P*P:=by
 obtain ⟨a,rfl⟩:=Int.eq_ofNat_of_zero_le h0;have hp:1<=(2^k:Nat):=Nat.one_le_two_pow;have eP:P=((2^k:Nat):Int):=by rw [hP];push_cast;rfl
 have e:m=((2^k-1:Nat):Int):=by rw [hm,eP];omega
 rw [e] at hk |-;rw [eP,u64_andNot_nat a (2^k-1) (by omega) (by omega)];rw [show ((a:Int)/((2^k:Nat):Int)*((2^k:Nat):Int))=((a/2^k*2^k:Nat):Int) by push_cast;rfl];congr 1;apply Nat.eq_of_testBit_eq;intro i;have hk64:k<=64:=by
  rcases Nat.lt_or_ge 64 k with h | h
  ·have:2^65<=2^k:=Nat.pow_le_pow_right (by omega) h;omega
  ·exact h
 rw [Nat.testBit_and,Nat.testBit_mul_two_pow,Nat.testBit_div_two_pow];by_cases hi:k<=i
 ·by_cases hi':i<64
  ·have:(18446744073709551615-(2^k-1)).testBit i=true:=by
    rw [show 18446744073709551615-(2^k-1)=2^64-(2^k-1+1) by omega,Nat.testBit_two_pow_sub_succ (by omega),Nat.testBit_two_pow_sub_one];simp;omega
   rw [this];simp [hi,show i-k+k=i by omega]
  ·have:a.testBit i=false:=Nat.testBit_lt_two_pow (ltl (by omega:a<2^64) (Nat.pow_le_pow_right (by omega) (by omega)));simp [this,show i-k+k=i by omega]
 ·have:(18446744073709551615-(2^k-1)).testBit i=false:=by
   rw [show 18446744073709551615-(2^k-1)=2^64-(2^k-1+1) by omega,Nat.testBit_two_pow_sub_succ (by omega),Nat.testBit_two_pow_sub_one];simp;omega
  simp [this,hi]
theorem jR (k:Nat) (x y m P:Int) (hP:P=2^k) (hm:m=P-1) (hk:m<18446744073709551616) (h0:0<=x) (h1:x<=18446744073709551615) (g0:0<=y) (g1:y<=18446744073709551615):
 bits .or .u64 (bits .andNot .u64 x m) (bits .and .u64 y m)=x/P*P+y%P:=by
 have hp:1<=P:=by rw [hP];exact Int.pow_pos (by omega:(0:Int)<2)
 rw [pI k x m P hP hm hk h0 h1,db k y m (by rw [hm,hP]) hk g0 g1,<-hP];have a1:0<=y%P:=Int.emod_nonneg _ (by omega);have a2:y%P<P:=Int.emod_lt_of_pos _ (by omega);have a3:0<=x/P:=Int.ediv_nonneg h0 (by omega);have a4:x/P*P<=x:=Int.ediv_mul_le _ (by omega);have a5:0<=x/P*P:=Int.mul_nonneg a3 (by omega);have hc:bits .or .u64 (x/P*P) (y%P)=bits .or .u64 (y%P) (x/P*P):=by
  rw [u64_or _ _ a5 (by omega) a1 (by omega),u64_or _ _ a1 (by omega) a5 (by omega),Nat.or_comm]
 rw [hc,dm k P (y%P) (x/P) hP a1 a2 a3 (by omega) (by omega)];omega
theorem bQ (n m:Int) (w:World) (h:(n=0∧m=0)∨(n=3∧m=7)∨(n=6∧m=63)∨(n=9∧m=511)∨(n=12∧m=4095)∨(n=44∧m=17592186044415)∨(n=50∧m=1125899906842623)∨(n=15∧m=32767)∨(n=16∧m=65535)):
 Calls Tryz.prog 88 #[VI n] w fun e w'=>e=.returned (VU m)∧w'=w:=by
 rcases h with ⟨rfl,rfl⟩ | ⟨rfl,rfl⟩ | ⟨rfl,rfl⟩ | ⟨rfl,rfl⟩ | ⟨rfl,rfl⟩ | ⟨rfl,rfl⟩ | ⟨rfl,rfl⟩ | ⟨rfl,rfl⟩ | ⟨rfl,rfl⟩;all_goals
  go_enter Tryz.func88,Tryz.ntmps88;go_wp2;go_ret;exact ⟨rfl,rfl⟩
theorem bR (x m:Int) (w:World):
 Calls Tryz.prog 129 #[VU x,VU m] w fun e w'=>e=.returned (.bool (sK x m))∧w'=w:=by
 go_enter Tryz.func129,Tryz.ntmps129;go_wp2;go_ret;exact ⟨rfl,rfl⟩
theorem BZ (x:Int) (w:World) (h0:0<=x) (h1:x<=18446744073709551615):
 Calls Tryz.prog 111 #[VU x] w fun e w'=>e=.returned (.bool (bY x))∧w'=w:=by
 have hm:x/16384%1125899906842624=x/16384:=Int.emod_eq_of_lt (Int.ediv_nonneg h0 (by omega)) (by omega);rw [bY,hm];clear hm;by_cases ht:x/16384=0
 ·have ht':(x/16384 == 0)=true:=by simp [ht]
  clear ht;go_enter Tryz.func111,Tryz.ntmps111;go_wp2;go_ret;exact ⟨by simp [ht'],rfl⟩
 ·have ht':(x/16384 == 0)=false:=by simpa using ht
  clear ht;go_enter Tryz.func111,Tryz.ntmps111;go_wp2_with (go_at_call 88;refine (bQ 50 1125899906842623 _ (by omega)).mono ?_;rintro e w' ⟨rfl,rfl⟩);go_ret;exact ⟨by simp [ht'],rfl⟩
theorem qC (x:Int) (w:World) (h0:0<=x) (h1:x<=18446744073709551615):
 Calls Tryz.prog 179 #[VU x] w fun e w'=>e=.returned (VU (cx x))∧w'=w:=by
 have H:=hid (db 44 (x/1024) 17592186044415 rfl (by omega) (by omega) (by omega));go_enter Tryz.func179,Tryz.ntmps179;go_wp2_with (go_at_call 88;refine (bQ 44 17592186044415 _ (by omega)).mono ?_;rintro e w' ⟨rfl,rfl⟩);go_ret;exact ⟨da H.out,rfl⟩
theorem qD (x:Int) (w:World) (h0:0<=x) (h1:x<=18446744073709551615):
 Calls Tryz.prog 186 #[VU x] w fun e w'=>e=.returned (VU (x/18014398509481984%1024))∧w'=w:=by
 have H:Hid (x/18014398509481984=x/18014398509481984%1024):=show _=_ by omega
 go_enter Tryz.func186,Tryz.ntmps186;go_wp2;go_ret;exact ⟨da H.out,rfl⟩
def EN (x:Int):Bool:=aZ x 1 && (x/18014398509481984%1024 == 0) && !(aZ x 4 && !aZ x 2)
theorem Cy (x:Int) (w:World) (h0:0<=x) (h1:x<=18446744073709551615):
 Calls Tryz.prog 183 #[VU x] w fun e w'=>e=.returned (.bool (EN x))∧w'=w:=by
 have HV:=hid (bX 0 x 1 rfl (by omega) h0 h1);have HR:=hid (bX 1 x 2 rfl (by omega) h0 h1);have HW:=hid (bX 2 x 4 rfl (by omega) h0 h1);cases hw:aZ x 4 <;> cases hr:aZ x 2 <;> cases hv:aZ x 1;all_goals
  go_enter Tryz.func183,Tryz.ntmps183;go_wp2_with (first
   | (go_at_call 129;refine (bR x _ _).mono ?_;rintro e w' ⟨rfl,rfl⟩;first | rw [HW.out,hw] | rw [HR.out,hr] | rw [HV.out,hv])
   | (go_at_call 186;refine (qD x _ h0 h1).mono ?_;rintro e w' ⟨rfl,rfl⟩))
  all_goals
   go_ret;exact ⟨aR (by simp [EN,hw,hr,hv];try assumption),rfl⟩
theorem EO (x level:Int) (w:World) (h0:0<=x) (h1:x<=18446744073709551615) (hl:level=0∨level=1∨level=2):
 Calls Tryz.prog 184 #[VU x,VI level] w fun e w'=>e=.returned (.bool (cx x%ox level == 0))∧w'=w:=by
 have hpp:0<=cx x∧cx x<17592186044416:=⟨Int.emod_nonneg _ (by omega),Int.emod_lt_of_pos _ (by omega)⟩;have HP:∀w,Hid (Calls Tryz.prog 179 #[VU x] w fun e w'=>e=.returned (VU (cx x))∧w'=w):=fun w=>qC x w h0 h1;generalize cx x=p at *;rcases hl with rfl | rfl | rfl
 ·have H:Hid ((bits .and .u64 p 0 == 0)=(p%ox 0 == 0)):=by
   show _=_;rw [db 0 p 0 rfl (by omega) hpp.1 (by omega)];rfl
  go_enter Tryz.func184,Tryz.ntmps184;go_wp2_with (first
   | (go_at_call 179;refine ((HP _).out).mono ?_;rintro e w' ⟨rfl,rfl⟩)
   | (go_at_call 88;refine (bQ 0 0 _ (by omega)).mono ?_;rintro e w' ⟨rfl,rfl⟩))
  go_ret;exact ⟨aR H.out,rfl⟩
 ·have H:Hid ((bits .and .u64 p 7 == 0)=(p%ox 1 == 0)):=by
   show _=_;rw [db 3 p 7 rfl (by omega) hpp.1 (by omega)];rfl
  go_enter Tryz.func184,Tryz.ntmps184;go_wp2_with (first
   | (go_at_call 179;refine ((HP _).out).mono ?_;rintro e w' ⟨rfl,rfl⟩)
   | (go_at_call 88;refine (bQ 3 7 _ (by omega)).mono ?_;rintro e w' ⟨rfl,rfl⟩))
  go_ret;exact ⟨aR H.out,rfl⟩
 ·have H:Hid ((bits .and .u64 p 63 == 0)=(p%ox 2 == 0)):=by
   show _=_;rw [db 6 p 63 rfl (by omega) hpp.1 (by omega)];rfl
  go_enter Tryz.func184,Tryz.ntmps184;go_wp2_with (first
   | (go_at_call 179;refine ((HP _).out).mono ?_;rintro e w' ⟨rfl,rfl⟩)
   | (go_at_call 88;refine (bQ 6 63 _ (by omega)).mono ?_;rintro e w' ⟨rfl,rfl⟩))
  go_ret;exact ⟨aR H.out,rfl⟩
theorem bV (l:Int) (w:World):
 Calls Tryz.prog 127 #[VI l] w fun e w'=>e=.returned (.bool (decide (0<=l∧l<=2)))∧w'=w:=by
 by_cases h:0<=l
 ·go_enter Tryz.func127,Tryz.ntmps127;go_wp2;go_ret;exact ⟨aR (by simp [h]),rfl⟩
 ·go_enter Tryz.func127,Tryz.ntmps127;go_wp2;go_ret;exact ⟨aR (by simp;omega),rfl⟩
theorem ku (x level:Int) (w:World) (h0:0<=x) (h1:x<=18446744073709551615):
 Calls Tryz.prog 178 #[VU x,VI level] w fun e w'=>e=.returned (VI (aV x level))∧w'=w:=by
 by_cases hlev:0<=level∧level<=2
 ·have hk:decide (0<=level∧level<=2)=true:=by simpa using hlev
  have HK:=hid hk;have hl:level=0∨level=1∨level=2:=by omega
  clear hk hlev;have HR:=hid (yh x h0 h1);have HU:=hid (yi x h0 h1);cases hs:EN x
  ·have HE:Hid (aV x level=0):=by
    show _=_;simp only [aV];rw [if_pos];simp only [EN] at hs;cases hv:aZ x 1
    ·simp
    ·rw [hv] at hs;by_cases hb:0<x/18014398509481984%1024
     ·simp [hb]
     ·have hb':x/18014398509481984%1024=0:=by omega
      rw [hb'] at hs |-;simp at hs;simp [hs]
   go_enter Tryz.func178,Tryz.ntmps178;go_wp2_with (first
    | (go_at_call 127;refine (bV level _).mono ?_;rintro e w' ⟨rfl,rfl⟩;rw [HK.out])
    | (go_at_call 183;refine (Cy x _ h0 h1).mono ?_;rintro e w' ⟨rfl,rfl⟩;rw [hs]))
   go_ret;exact ⟨eQ HE.out.symm,rfl⟩
  ·have hn:¬(level<0∨2<level∨aZ x 1=false∨0<x/18014398509481984%1024∨(aZ x 4=true∧aZ x 2=false)):=by
    simp only [EN,Bool.and_eq_true,beq_iff_eq,Bool.not_eq_true',Bool.and_eq_false_iff,Bool.not_eq_false'] at hs;obtain ⟨⟨a1,a2⟩,a3⟩:=hs;rw [a1,a2];rcases a3 with a3 | a3
    ·simp [a3];omega
    ·simp [a3];omega
   have HE:Hid (aV x level=if aZ x 2=false∧aZ x 4=false∧aZ x 8=false then (if level=0∨aZ x 16=true∨aZ x 64=true∨aZ x 128=true then 0 else 1) else if 0<cx x%ox level then 0 else 2):=by
    show _=_;rw [aV,if_neg hn]
   clear hn;cases hr:(aZ x 2 || aZ x 4 || aZ x 8)
   ·simp only [Bool.or_eq_false_iff] at hr;have HE2:Hid (aV x level=if level=0∨aZ x 16=true∨aZ x 64=true∨aZ x 128=true then 0 else 1):=by
     show _=_;rw [HE.out,if_pos ⟨hr.1.1,hr.1.2,hr.2⟩]
    clear HE;have HR':Hid (sK x 14=false):=by show _=_;rw [HR.out,hr.1.1,hr.1.2,hr.2];rfl
    clear HR hr;by_cases hz:level=0
    ·subst hz;go_enter Tryz.func178,Tryz.ntmps178;go_wp2_with (first
      | (go_at_call 127;refine (bV 0 _).mono ?_;rintro e w' ⟨rfl,rfl⟩;rw [HK.out])
      | (go_at_call 183;refine (Cy x _ h0 h1).mono ?_;rintro e w' ⟨rfl,rfl⟩;rw [hs])
      | (go_at_call 129;refine (bR x _ _).mono ?_;rintro e w' ⟨rfl,rfl⟩;rw [HR'.out]))
     go_ret;exact ⟨eQ (by rw [HE2.out];simp),rfl⟩
    ·have hz':(level == 0)=false:=by simpa using hz
     cases hu:(aZ x 16 || aZ x 64 || aZ x 128)
     ·have HE3:Hid (aV x level=1):=by
       show _=_;simp only [Bool.or_eq_false_iff] at hu;rw [HE2.out,hu.1.1,hu.1.2,hu.2];simp [hz]
      go_enter Tryz.func178,Tryz.ntmps178;go_wp2_with (first
       | (go_at_call 127;refine (bV level _).mono ?_;rintro e w' ⟨rfl,rfl⟩;rw [HK.out])
       | (go_at_call 183;refine (Cy x _ h0 h1).mono ?_;rintro e w' ⟨rfl,rfl⟩;rw [hs])
       | (go_at_call 129;refine (bR x _ _).mono ?_;rintro e w' ⟨rfl,rfl⟩;first | rw [HR'.out] | rw [HU.out,hu]))
      go_ret;exact ⟨eQ HE3.out.symm,rfl⟩
     ·have HE3:Hid (aV x level=0):=by
       show _=_;simp only [Bool.or_eq_true] at hu;rw [HE2.out,if_pos];rcases hu with (hu | hu) | hu <;> simp [hu]
      go_enter Tryz.func178,Tryz.ntmps178;go_wp2_with (first
       | (go_at_call 127;refine (bV level _).mono ?_;rintro e w' ⟨rfl,rfl⟩;rw [HK.out])
       | (go_at_call 183;refine (Cy x _ h0 h1).mono ?_;rintro e w' ⟨rfl,rfl⟩;rw [hs])
       | (go_at_call 129;refine (bR x _ _).mono ?_;rintro e w' ⟨rfl,rfl⟩;first | rw [HR'.out] | rw [HU.out,hu]))
      go_ret;exact ⟨eQ HE3.out.symm,rfl⟩
   ·have HR':Hid (sK x 14=true):=by show _=_;rw [HR.out,hr]
    have HE2:Hid (aV x level=if 0<cx x%ox level then 0 else 2):=by
     show _=_;rw [HE.out,if_neg];rintro ⟨q1,q2,q3⟩;rw [q1,q2,q3] at hr;cases hr
    clear HE HR hr;have hnn:0<=cx x%ox level:=by
     apply Int.emod_nonneg;rcases hl with rfl | rfl | rfl <;> decide
    cases ha:(cx x%ox level == 0)
    ·have HE3:Hid (aV x level=0):=by
      show _=_;have:cx x%ox level≠0:=by simpa using ha
      rw [HE2.out,if_pos (by omega)]
     clear hnn;go_enter Tryz.func178,Tryz.ntmps178;go_wp2_with (first
      | (go_at_call 127;refine (bV level _).mono ?_;rintro e w' ⟨rfl,rfl⟩;rw [HK.out])
      | (go_at_call 183;refine (Cy x _ h0 h1).mono ?_;rintro e w' ⟨rfl,rfl⟩;rw [hs])
      | (go_at_call 129;refine (bR x _ _).mono ?_;rintro e w' ⟨rfl,rfl⟩;rw [HR'.out])
      | (go_at_call 184;refine (EO x level _ h0 h1 hl).mono ?_;rintro e w' ⟨rfl,rfl⟩;rw [ha]))
     go_ret;exact ⟨eQ HE3.out.symm,rfl⟩
    ·have HE3:Hid (aV x level=2):=by
      show _=_;have:cx x%ox level=0:=by simpa using ha
      rw [HE2.out,if_neg (by omega)]
     clear hnn;go_enter Tryz.func178,Tryz.ntmps178;go_wp2_with (first
      | (go_at_call 127;refine (bV level _).mono ?_;rintro e w' ⟨rfl,rfl⟩;rw [HK.out])
      | (go_at_call 183;refine (Cy x _ h0 h1).mono ?_;rintro e w' ⟨rfl,rfl⟩;rw [hs])
      | (go_at_call 129;refine (bR x _ _).mono ?_;rintro e w' ⟨rfl,rfl⟩;rw [HR'.out])
      | (go_at_call 184;refine (EO x level _ h0 h1 hl).mono ?_;rintro e w' ⟨rfl,rfl⟩;rw [ha]))
     go_ret;exact ⟨eQ HE3.out.symm,rfl⟩
 ·have HK:Hid (decide (0<=level∧level<=2)=false):=by show _=_;simpa using hlev
  have HE:Hid (aV x level=0):=by
   show _=_;rw [aV,if_pos (by omega)]
  clear hlev;go_enter Tryz.func178,Tryz.ntmps178;go_wp2_with (go_at_call 127;refine (bV level _).mono ?_;rintro e w' ⟨rfl,rfl⟩;rw [HK.out]);go_ret;exact ⟨eQ HE.out.symm,rfl⟩
end Go.Proofs.YthdgiakgepmabaaGreat
