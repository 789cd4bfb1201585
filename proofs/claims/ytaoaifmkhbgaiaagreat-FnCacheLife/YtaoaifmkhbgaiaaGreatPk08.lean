import Derived.Test.YtaoaifmkhbgaiaaGreatPk07
import Derived.Test.YtaoaifmkhbgaiaaGreatPk01
import Derived.Test.YtaoaifmkhbgaiaaGreatPk02
import Derived.Test.YtaoaifmkhbgaiaaGreatPk03
namespace Go.Proofs.YtaoaifmkhbgaiaaGreat
set_option linter.unusedVariables false
theorem xN (va level:Int) (h0:0≤level) (h2:level≤2):0≤dt va level∧dt va level<lS level:=by
 unfold dt lS;rcases (show level=0∨level=1∨level=2 by omega) with rfl | rfl | rfl <;> simp <;> omega
theorem qy {pte level:Int} (h:bC pte level≠0):0≤level∧level≤2:=by
 unfold bC at h;split at h
 ·exact absurd rfl h
 ·omega
theorem iV (level va satp pte:Int) (p:Bool) (hk:bC pte level=iA p):aS (et level va satp pte) p=true:=by
 have hl:0≤level∧level≤2:=qy (by rw [hk];cases p <;> decide);have ht:=xN va level hl.1 hl.2;have ha:ay satp≤65535:=by unfold ay;omega
 simp [aS,et,hl.1,hl.2,ht.2,ha,hk]
theorem rY (level va satp pte:Int) (p:Bool) (hk:bC pte level=iA p):0≤(et level va satp pte).tag:=by
 have hl:0≤level∧level≤2:=qy (by rw [hk];cases p <;> decide);exact (xN va level hl.1 hl.2).1
theorem ny (va satp pick:Int):∀(rs:List ef) (p:TlbM),aG p true=true→aG (cE va satp pick rs p) true=true
 | [],p,h=>h
 | r::rs,p,h=>by
  rw [cE];refine ny va satp pick rs _ ?_;split
  ·rename_i hk;exact iM p _ pick true h (iV _ _ _ _ true hk) (rY _ _ _ _ true hk)
  ·exact h
theorem kN (zs:List Int) (va:Int):∀(l:Nat) (n:Int),(cN zs va l n).1=1→bC (cN zs va l n).2.2.1 (cN zs va l n).2.1=2
 | 0,n=>by
  intro h;unfold cN at h ⊢;split at h
  ·simp at h
  ·rename_i h1;rw [if_neg h1];split at h
   ·simp at h
   ·rename_i h2;rw [if_neg h2];split at h
    ·rename_i h3;rw [if_pos h3];exact h3
    ·simp at h
 | l+1,n=>by
  intro h;unfold cN at h ⊢;split at h
  ·simp at h
  ·rename_i h1;rw [if_neg h1];split at h
   ·simp at h
   ·rename_i h2;rw [if_neg h2];split at h
    ·rename_i h3;rw [if_pos h3];exact h3
    ·rename_i h3;rw [if_neg h3];exact kN zs va l _ h
theorem rZ (zs:List Int) (root va:Int) (h:(bV zs root va).1=1):bC (bV zs root va).2.2.1 (bV zs root va).2.1=2:=by
 unfold bV at h ⊢;split at h
 ·simp at h
 ·rename_i hc;rw [if_neg hc];exact kN zs va 2 _ h
theorem jf (kind:Int):eD kind≠0:=by
 unfold eD;split
 ·decide
 ·split <;> decide
theorem iq (kind:Int):cQ kind≠0:=by
 unfold cQ;split
 ·decide
 ·split <;> decide
theorem qz (zs:List Int) (mode:Int) (sum mxr:Bool) (satp:Int) (k:KM) (kind va pick:Int) (hk:aV k=true) (h1:0≤kind∧kind≤2) (h2:0≤mode∧mode≤2) (h3:0≤pick∧pick≤255)
 (hn:onM mode satp=true→bW va=true→(aO (cM k kind) va (ay satp)).1=false∧(aO k.p va (ay satp)).1=false):
 (ak zs mode sum mxr satp k kind va pick).1=eu zs mode sum mxr satp kind va:=by
 have hb1:¬(aV k=false∨kind<0∨2<kind∨mode<0∨2<mode∨pick<0∨255<pick):=by rw [hk];simp;omega
 have hb2:¬(kind<0∨2<kind∨mode<0∨2<mode):=by omega
 have e1:eu zs mode sum mxr satp kind va=if onM mode satp=false then (0,va) else ck (bV zs satp va) mode sum mxr kind va:=by
  unfold eu;rw [if_neg hb2]
 rw [e1];unfold ak;rw [if_neg hb1];cases hon:onM mode satp
 ·simp only [if_true]
 ·simp only [Bool.true_eq_false,if_false];cases hc:bW va
  ·simp only [if_true];unfold bV ck;rw [if_pos hc,if_pos rfl]
  ·obtain ⟨q1,q2⟩:=hn hon hc;simp only [Bool.true_eq_false,if_false,q1,Bool.false_eq_true,aW,q2]
theorem r6 (t:TlbM) (f:FenceM) (va asid:Int) (he:cY t=true) (hv:f.hasVa=true→bW f.va=true∧∀l,0≤l→l≤2→dt f.va l=dt va l)
 (ha:f.hasAsid=true→f.asid=asid∧∀x∈t.es,x.valid=true→x.glob=true→x.tag≠dt va x.level):∀x∈(ct t f).es,fz x va asid=false:=by
 intro x hx;unfold ct at hx;rw [if_pos he] at hx;simp only [List.mem_map] at hx;obtain ⟨y,hy,rfl⟩:=hx;unfold cU;split
 ·simp [fz,cL]
 ·rename_i hs;cases hf:fz y va asid
  ·rfl
  ·exfalso;apply hs;simp only [fz,Bool.and_eq_true,beq_iff_eq,Bool.or_eq_true] at hf;obtain ⟨⟨hval,htag⟩,hga⟩:=hf;obtain ⟨j,hj⟩:=List.getElem?_of_mem hy;have hl:=dX he j y hj hval;simp only [hval,Bool.true_and,go,Bool.and_eq_true,Bool.not_eq_true',Bool.or_eq_true];refine ⟨?_,?_⟩
   ·cases hh:f.hasVa
    ·rfl
    ·obtain ⟨c1,c2⟩:=hv hh;rw [c1,htag,c2 _ hl.1 hl.2];simp
   ·cases hh:f.hasAsid
    ·exact .inl rfl
    ·right;obtain ⟨c1,c2⟩:=ha hh;have hgl:y.glob=false:=by
      cases hg:y.glob
      ·rfl
      ·exact absurd htag (c2 y hy hval hg)
     rw [hgl] at hga ⊢;simp only [Bool.false_eq_true,false_or] at hga;rw [hga,c1];simp
theorem nH (zs:List Int) (mode:Int) (sum mxr:Bool) (satp:Int) (k:KM) (kind va pick:Int) (hk:aV k=true) (h1:0≤kind∧kind≤2) (h2:0≤mode∧mode≤2) (h3:0≤pick∧pick≤255):
 aV (ak zs mode sum mxr satp k kind va pick).2=true:=by
 have hk':=hk;simp only [aV,Bool.and_eq_true] at hk';obtain ⟨⟨gi,gd⟩,gp⟩:=hk';unfold ak;rw [if_neg (by rw [hk];simp;omega)];split
 ·exact hk
 ·split
  ·exact hk
  ·split
   ·exact hk
   ·simp only;have gp':=ny va satp pick (aW zs satp va (aO k.p va (ay satp))).2.2.2 k.p gp;split
    ·rename_i ha;have hkind:bC (aW zs satp va (aO k.p va (ay satp))).2.2.1 (aW zs satp va (aO k.p va (ay satp))).2.1=2:=by
      have hcode:(aW zs satp va (aO k.p va (ay satp))).1=1:=by
       have hc:(aW zs satp va (aO k.p va (ay satp))).1=1∨(aW zs satp va (aO k.p va (ay satp))).1=2∨(aW zs satp va (aO k.p va (ay satp))).1=3:=by
        unfold aW;split
        ·exact kG zs va _ _
        ·exact kH zs satp va
       unfold ck at ha;rcases hc with hc | hc | hc
       ·exact hc
       ·rw [if_pos hc] at ha;exact absurd ha (jf kind)
       ·rw [if_neg (by rw [hc];decide),if_pos hc] at ha;exact absurd ha (iq kind)
      unfold aW at hcode ⊢;split at hcode
      ·rename_i hu;rw [if_pos hu];exact kN zs va _ _ hcode
      ·rename_i hu;rw [if_neg hu];exact rZ zs satp va hcode
     have hge:=iV _ va satp _ false hkind;have hgt:=rY _ va satp _ false hkind;unfold p6 cM;split
     ·simp only [aV,Bool.and_eq_true];exact ⟨⟨iM _ _ pick false gi hge hgt,gd⟩,gp'⟩
     ·simp only [aV,Bool.and_eq_true];exact ⟨⟨gi,iM _ _ pick false gd hge hgt⟩,gp'⟩
    ·simp only [aV,Bool.and_eq_true];exact ⟨⟨gi,gd⟩,gp'⟩
end Go.Proofs.YtaoaifmkhbgaiaaGreat

namespace Go.Proofs.YtaoaifmkhbgaiaaGreat
set_option linter.unusedVariables false
theorem vk {r:Int × Int × Int × List ef} {mode:Int} {sum mxr:Bool} {kind va:Int} (ha:(ck r mode sum mxr kind va).1=0):
 r.1≠2∧r.1≠3∧cH r.2.2.1 kind mode sum mxr=true∧(ck r mode sum mxr kind va).2=eV r.2.2.1 r.2.1 va:=by
 unfold ck at ha ⊢;by_cases h2:r.1=2
 ·rw [if_pos h2] at ha;exact absurd ha (jf kind)
 ·rw [if_neg h2] at ha ⊢;by_cases h3:r.1=3
  ·rw [if_pos h3] at ha;exact absurd ha (iq kind)
  ·rw [if_neg h3] at ha ⊢;unfold ey at ha ⊢;by_cases hg:cH r.2.2.1 kind mode sum mxr=true
   ·rw [if_pos hg];exact ⟨h2,h3,hg,rfl⟩
   ·rw [if_neg hg] at ha;exact absurd ha (jf kind)
theorem vl {zs:List Int} {satp va:Int} {up:Bool × Int × Int × Int} (h2:(aW zs satp va up).1≠2) (h3:(aW zs satp va up).1≠3):
 bC (aW zs satp va up).2.2.1 (aW zs satp va up).2.1=2:=by
 unfold aW at h2 h3 ⊢;split
 ·rename_i hu;rw [if_pos hu] at h2 h3;exact kN zs va _ _ (by rcases kG zs va (up.2.2.1-1).toNat (dK up.2.2.2) with h | h | h <;> omega)
 ·rename_i hu;rw [if_neg hu] at h2 h3;exact rZ zs satp va (by rcases kH zs satp va with h | h | h <;> omega)
theorem zx (level va satp pte:Int):fz (et level va satp pte) va (ay satp)=true:=by
 simp [fz,et]
theorem vm (zs:List Int) (mode:Int) (sum mxr:Bool) (satp:Int) (k:KM) (kind va pick:Int) (hk:aV k=true) (h1:0≤kind∧kind≤2) (h2:0≤mode∧mode≤2) (h3:0≤pick∧pick≤255)
 (hon:onM mode satp=true) (h0:(ak zs mode sum mxr satp k kind va pick).1.1=0):
 (aO (cM (ak zs mode sum mxr satp k kind va pick).2 kind) va (ay satp)).1=true∧
 cH (aO (cM (ak zs mode sum mxr satp k kind va pick).2 kind) va (ay satp)).2.2.2 kind mode sum mxr=true∧
 (ak zs mode sum mxr satp k kind va pick).1.2=eV (aO (cM (ak zs mode sum mxr satp k kind va pick).2 kind) va (ay satp)).2.2.2 (aO (cM (ak zs mode sum mxr satp k kind va pick).2 kind) va (ay satp)).2.2.1 va:=by
 have hk':=hk;simp only [aV,Bool.and_eq_true] at hk';obtain ⟨⟨gi,gd⟩,gp⟩:=hk';have gt:aG (cM k kind) false=true:=by unfold cM;split <;> assumption
 have hb1:¬(aV k=false∨kind<0∨2<kind∨mode<0∨2<mode∨pick<0∨255<pick):=by rw [hk];simp;omega
 have e:ak zs mode sum mxr satp k kind va pick=if bW va=false then ((eD kind,0),k)
  else if (aO (cM k kind) va (ay satp)).1=true then (ey (aO (cM k kind) va (ay satp)).2.2.2 (aO (cM k kind) va (ay satp)).2.2.1 mode sum mxr kind va,k)
  else (ck (aW zs satp va (aO k.p va (ay satp))) mode sum mxr kind va,if (ck (aW zs satp va (aO k.p va (ay satp))) mode sum mxr kind va).1=0 then p6 ⟨k.i,k.d,cE va satp pick (aW zs satp va (aO k.p va (ay satp))).2.2.2 k.p⟩ kind (cz (cM k kind) (et (aW zs satp va (aO k.p va (ay satp))).2.1 va satp (aW zs satp va (aO k.p va (ay satp))).2.2.1) pick) else ⟨k.i,k.d,cE va satp pick (aW zs satp va (aO k.p va (ay satp))).2.2.2 k.p⟩):=by
  unfold ak;rw [if_neg hb1,if_neg (by rw [hon];decide)]
 rw [e] at h0 ⊢;by_cases hc:bW va=false
 ·rw [if_pos hc] at h0;exact absurd h0 (jf kind)
 ·rw [if_neg hc] at h0 ⊢;by_cases hh:(aO (cM k kind) va (ay satp)).1=true
  ·rw [if_pos hh] at h0 ⊢;unfold ey at h0 ⊢;by_cases hg:cH (aO (cM k kind) va (ay satp)).2.2.2 kind mode sum mxr=true
   ·rw [if_pos hg];exact ⟨hh,hg,rfl⟩
   ·rw [if_neg hg] at h0;exact absurd h0 (jf kind)
  ·rw [if_neg hh] at h0 ⊢;generalize hr:aW zs satp va (aO k.p va (ay satp))=r at h0 ⊢;simp only at h0 ⊢;obtain ⟨n2,n3,hg,hp⟩:=vk h0;rw [if_pos h0];have hkind:bC r.2.2.1 r.2.1=2:=by
    rw [←hr] at n2 n3 ⊢;exact vl n2 n3
   have hn:(aO (cM k kind) va (ay satp)).1=false:=by simpa using hh
   have hi:=xh (cM k kind) (et r.2.1 va satp r.2.2.1) pick false va (ay satp) gt (iV _ va satp _ false hkind) (rY _ va satp _ false hkind) h3 hn (zx _ _ _ _);have hpk:∀(kk:KM) (t:TlbM),cM (p6 kk kind t) kind=t:=by
    intro kk t;unfold p6 cM;by_cases hz:kind=0
    ·rw [if_pos hz,if_pos hz]
    ·rw [if_neg hz,if_neg hz]
   rw [hpk,hi];exact ⟨rfl,hg,hp⟩
end Go.Proofs.YtaoaifmkhbgaiaaGreat

namespace Go.Proofs.YtaoaifmkhbgaiaaGreat
set_option linter.unusedVariables false
abbrev iE:=Int × Int × Bool × ef
def xM (va satp:Int) (r:ef):iE:=(dt va r.1,ay satp,bK r.2.2 32,r)
def un (gs:List iE) (f:FenceM):List iE:=gs.filter fun g=>!go f g.2.2.2.1 g.1 g.2.1 g.2.2.1
def zC (g:iE) (e:EntM):Prop:=g.1=e.tag∧g.2.1=e.asid∧g.2.2.1=e.glob∧g.2.2.2.1=e.level∧g.2.2.2.2.2=e.pte
def CovT (t:TlbM) (gs:List iE):Prop:=∀e∈t.es,e.valid=true→∃g∈gs,zC g e
def CovK (k:KM) (gs:List iE):Prop:=CovT k.i gs∧CovT k.d gs∧CovT k.p gs
theorem CovT.mono {t:TlbM} {gs gs':List iE} (h:CovT t gs) (hs:∀g∈gs,g∈gs'):CovT t gs':=fun e he hv=>by
 obtain ⟨g,hg,hs'⟩:=h e he hv;exact ⟨g,hs g hg,hs'⟩
theorem CovK.mono {k:KM} {gs gs':List iE} (h:CovK k gs) (hs:∀g∈gs,g∈gs'):CovK k gs':=⟨h.1.mono hs,h.2.1.mono hs,h.2.2.mono hs⟩
theorem CovT.insert {t:TlbM} {gs:List iE} {e:EntM} {pick:Int} (h:CovT t gs) (he:∃g∈gs,zC g e):CovT (cz t e pick) gs:=by
 unfold cz;split
 ·intro x hx hv;rcases List.mem_or_eq_of_mem_set hx with hx | rfl
  ·exact h x hx hv
  ·exact he
 ·exact h
theorem xd (va satp:Int) (r:ef):zC (xM va satp r) (et r.1 va satp r.2.2):=⟨rfl,rfl,rfl,rfl,rfl⟩
theorem CovT.ptrs {gs:List iE} {va satp pick:Int}:∀(rs:List ef) (p:TlbM),CovT p gs→(∀r∈rs,bC r.2.2 r.1=1→xM va satp r∈gs)→CovT (cE va satp pick rs p) gs
 | [],p,h,_=>h
 | r::rs,p,h,hr=>by
  rw [cE];refine CovT.ptrs rs _ ?_ (fun x hx=>hr x (List.mem_cons_of_mem _ hx));split
  ·rename_i hk;exact h.insert ⟨_,hr r (List.mem_cons_self ..) hk,xd va satp r⟩
  ·exact h
theorem CovT.flush {t:TlbM} {gs:List iE} {f:FenceM} (h:CovT t gs) (he:cY t=true):CovT (ct t f) (un gs f):=by
 unfold ct;rw [if_pos he];intro x hx hv;simp only [List.mem_map] at hx;obtain ⟨y,hy,rfl⟩:=hx;unfold cU at hv ⊢;split at hv
 ·simp [cL] at hv
 ·rename_i hc;rw [if_neg hc];obtain ⟨g,hg,h1,h2,h3,h4,h5⟩:=h y hy hv;refine ⟨g,?_,h1,h2,h3,h4,h5⟩;simp only [un,List.mem_filter,h1,h2,h3,h4,Bool.not_eq_true'];refine ⟨hg,?_⟩;simp only [hv,Bool.true_and,Bool.not_eq_true] at hc;exact hc
theorem lX (t:TlbM) (n:Int) (p:Bool) (hv:aG t p=true):aG (bY t n) p=true:=by
 have hs:=ft hv;refine r8 ?_ ?_
 ·simp only [ip,bY,decide_eq_true_eq,List.length_set];exact hs
 ·intro j x hx;simp only [bY,List.getElem?_set] at hx;split at hx
  ·split at hx
   ·cases hx;simp [cx,cL]
   ·cases hx
  ·exact jT hv j x hx
theorem xe (plain:Bool) (pick:Int) (k:KM) (h:aV k=true):aV (nI plain pick k)=true:=by
 unfold nI;split
 ·simp only [aV,Bool.and_eq_true] at h ⊢;exact ⟨⟨lX _ _ _ h.1.1,lX _ _ _ h.1.2⟩,lX _ _ _ h.2⟩
 ·exact h
theorem vw (k:KM) (f:FenceM) (h:aV k=true):aV (eH k f)=true:=by
 simp only [aV,eH,Bool.and_eq_true] at h ⊢;exact ⟨⟨gL _ _ _ h.1.1,gL _ _ _ h.1.2⟩,gL _ _ _ h.2⟩
theorem CovK.flush {k:KM} {gs:List iE} {f:FenceM} (h:CovK k gs) (hk:aV k=true):CovK (eH k f) (un gs f):=by
 simp only [aV,Bool.and_eq_true] at hk;exact ⟨h.1.flush (dO hk.1.1),h.2.1.flush (dO hk.1.2),h.2.2.flush (dO hk.2)⟩
end Go.Proofs.YtaoaifmkhbgaiaaGreat

namespace Go.Proofs.YtaoaifmkhbgaiaaGreat
set_option linter.unusedVariables false
theorem vu (a k:Nat):(a &&& 2^k != 0)=(a/2^k%2 == 1):=by
 have e:(a/2^k%2 == 1)=a.testBit k:=by rw [Nat.testBit_eq_decide_div_mod_eq];rfl
 rw [e];cases h:a.testBit k
 ·have:a &&& 2^k=0:=by
   apply Nat.eq_of_testBit_eq;intro i;rw [Nat.testBit_and,Nat.testBit_two_pow,Nat.zero_testBit];by_cases hi:k=i
   ·subst hi;simp [h]
   ·simp [hi]
  simp [this]
 ·have:a &&& 2^k≠0:=by
   intro h0;have:=congrArg (fun n=>n.testBit k) h0;simp [Nat.testBit_and,h] at this
  simpa using this
theorem kJ (a m n:Nat):(a &&& (m ||| n) != 0)=((a &&& m != 0) || (a &&& n != 0)):=by
 rw [Nat.and_or_distrib_left];cases h:(a &&& m != 0) <;> cases h':(a &&& n != 0) <;> simp_all [Nat.or_eq_zero_iff]
def kK (x m:Int):Bool:=bits .and .u64 x m != 0
theorem gZ (a m:Nat) (ha:a<18446744073709551616) (hm:m<18446744073709551616):kK a m=(a &&& m != 0):=by
 rw [kK,u64_and_nat a m ha hm];cases h:(a &&& m != 0)
 ·simp at h;simp [h]
 ·simp at h;simp;omega
theorem ep (k:Nat) (x p:Int) (hp:p=2^k) (hk:p<18446744073709551616) (h0:0≤x) (h1:x≤18446744073709551615):kK x p=bK x p:=by
 obtain ⟨a,rfl⟩:=Int.eq_ofNat_of_zero_le h0;have e:p=((2^k:Nat):Int):=by rw [hp];push_cast;rfl
 rw [e] at hk ⊢;rw [gZ a (2^k) (by omega) (by omega),vu,bK];rw [show ((a:Int)/((2^k:Nat):Int)%2)=((a/2^k%2:Nat):Int) by omega];generalize a/2^k%2=t;rw [Bool.eq_iff_iff];simp only [beq_iff_eq];omega
theorem zA (x:Int) (h0:0≤x) (h1:x≤18446744073709551615):kK x 14=(bK x 2 || bK x 4 || bK x 8):=by
 rw [←ep 1 x 2 rfl (by omega) h0 h1,←ep 2 x 4 rfl (by omega) h0 h1,←ep 3 x 8 rfl (by omega) h0 h1];obtain ⟨a,rfl⟩:=Int.eq_ofNat_of_zero_le h0;rw [show (14:Int)=((14:Nat):Int) from rfl,show (2:Int)=((2:Nat):Int) from rfl,show (4:Int)=((4:Nat):Int) from rfl,show (8:Int)=((8:Nat):Int) from rfl];rw [gZ a 14 (by omega) (by omega),gZ a 2 (by omega) (by omega),gZ a 4 (by omega) (by omega),gZ a 8 (by omega) (by omega)];rw [←kJ,←kJ];rfl
theorem zB (x:Int) (h0:0≤x) (h1:x≤18446744073709551615):kK x 208=(bK x 16 || bK x 64 || bK x 128):=by
 rw [←ep 4 x 16 rfl (by omega) h0 h1,←ep 6 x 64 rfl (by omega) h0 h1,←ep 7 x 128 rfl (by omega) h0 h1];obtain ⟨a,rfl⟩:=Int.eq_ofNat_of_zero_le h0;rw [show (208:Int)=((208:Nat):Int) from rfl,show (16:Int)=((16:Nat):Int) from rfl,show (64:Int)=((64:Nat):Int) from rfl,show (128:Int)=((128:Nat):Int) from rfl];rw [gZ a 208 (by omega) (by omega),gZ a 16 (by omega) (by omega),gZ a 64 (by omega) (by omega),gZ a 128 (by omega) (by omega)];rw [←kJ,←kJ];rfl
theorem yH (k:Nat) (x m P:Int) (hP:P=2^k) (hm:m=P-1) (hk:m<18446744073709551616) (h0:0≤x) (h1:x≤18446744073709551615):bits .andNot .u64 x m=x/P*P:=by
 obtain ⟨a,rfl⟩:=Int.eq_ofNat_of_zero_le h0;have hp:1≤(2^k:Nat):=Nat.one_le_two_pow;have eP:P=((2^k:Nat):Int):=by rw [hP];push_cast;rfl
 have e:m=((2^k-1:Nat):Int):=by rw [hm,eP];omega
 rw [e] at hk ⊢;rw [eP,u64_andNot_nat a (2^k-1) (by omega) (by omega)];rw [show ((a:Int)/((2^k:Nat):Int)*((2^k:Nat):Int))=((a/2^k*2^k:Nat):Int) by push_cast;rfl];congr 1;apply Nat.eq_of_testBit_eq;intro i;have hk64:k≤64:=by
  rcases Nat.lt_or_ge 64 k with h | h
  ·have:2^65≤2^k:=Nat.pow_le_pow_right (by omega) h;omega
  ·exact h
 rw [Nat.testBit_and,Nat.testBit_mul_two_pow,Nat.testBit_div_two_pow];by_cases hi:k≤i
 ·by_cases hi':i<64
  ·have:(18446744073709551615-(2^k-1)).testBit i=true:=by
    rw [show 18446744073709551615-(2^k-1)=2^64-(2^k-1+1) by omega,Nat.testBit_two_pow_sub_succ (by omega),Nat.testBit_two_pow_sub_one];simp;omega
   rw [this];simp [hi,show i-k+k=i by omega]
  ·have:a.testBit i=false:=Nat.testBit_lt_two_pow (Nat.lt_of_lt_of_le (by omega:a<2^64) (Nat.pow_le_pow_right (by omega) (by omega)));simp [this,show i-k+k=i by omega]
 ·have:(18446744073709551615-(2^k-1)).testBit i=false:=by
   rw [show 18446744073709551615-(2^k-1)=2^64-(2^k-1+1) by omega,Nat.testBit_two_pow_sub_succ (by omega),Nat.testBit_two_pow_sub_one];simp;omega
  simp [this,hi]
theorem nx (k:Nat) (x y m P:Int) (hP:P=2^k) (hm:m=P-1) (hk:m<18446744073709551616) (h0:0≤x) (h1:x≤18446744073709551615) (g0:0≤y) (g1:y≤18446744073709551615):
 bits .or .u64 (bits .andNot .u64 x m) (bits .and .u64 y m)=x/P*P+y%P:=by
 have hp:1≤P:=by rw [hP];exact Int.pow_pos (by omega:(0:Int)<2)
 rw [yH k x m P hP hm hk h0 h1,ew k y m (by rw [hm,hP]) hk g0 g1,←hP];have a1:0≤y%P:=Int.emod_nonneg _ (by omega);have a2:y%P<P:=Int.emod_lt_of_pos _ (by omega);have a3:0≤x/P:=Int.ediv_nonneg h0 (by omega);have a4:x/P*P≤x:=Int.ediv_mul_le _ (by omega);have a5:0≤x/P*P:=Int.mul_nonneg a3 (by omega);have hc:bits .or .u64 (x/P*P) (y%P)=bits .or .u64 (y%P) (x/P*P):=by
  rw [u64_or _ _ a5 (by omega) a1 (by omega),u64_or _ _ a1 (by omega) a5 (by omega),Nat.or_comm]
 rw [hc,py k P (y%P) (x/P) hP a1 a2 a3 (by omega) (by omega)];omega
end Go.Proofs.YtaoaifmkhbgaiaaGreat

namespace Go.Proofs.YtaoaifmkhbgaiaaGreat
open Go.RowKit
set_option linter.unusedVariables false
theorem dY (n m:Int) (w:World) (h:(n=0∧m=0)∨(n=3∧m=7)∨(n=6∧m=63)∨(n=9∧m=511)∨(n=12∧m=4095)∨(n=44∧m=17592186044415)∨(n=50∧m=1125899906842623)∨(n=15∧m=32767)∨(n=16∧m=65535)):
 Calls Tryz.prog 127 #[.int .i64 n] w fun e w'=>e=.returned (.int .u64 m)∧w'=w:=by
 rcases h with ⟨rfl,rfl⟩ | ⟨rfl,rfl⟩ | ⟨rfl,rfl⟩ | ⟨rfl,rfl⟩ | ⟨rfl,rfl⟩ | ⟨rfl,rfl⟩ | ⟨rfl,rfl⟩ | ⟨rfl,rfl⟩ | ⟨rfl,rfl⟩;all_goals
  go_enter Tryz.func127,Tryz.ntmps127;go_wp2_with fail;go_ret;exact ⟨rfl,rfl⟩
theorem ee (x m:Int) (w:World):
 Calls Tryz.prog 144 #[.int .u64 x,.int .u64 m] w fun e w'=>e=.returned (.bool (kK x m))∧w'=w:=by
 go_enter Tryz.func144,Tryz.ntmps144;go_wp2_with fail;go_ret;exact ⟨rfl,rfl⟩
theorem iK (x:Int) (w:World) (h0:0≤x) (h1:x≤18446744073709551615):
 Calls Tryz.prog 91 #[.int .u64 x] w fun e w'=>e=.returned (.bool (bW x))∧w'=w:=by
 have hm:x/16384%1125899906842624=x/16384:=Int.emod_eq_of_lt (Int.ediv_nonneg h0 (by omega)) (by omega);rw [bW,hm];clear hm;by_cases ht:x/16384=0
 ·have ht':(x/16384 == 0)=true:=by simp [ht]
  clear ht;go_enter Tryz.func91,Tryz.ntmps91;go_wp2_with fail;go_ret;exact ⟨by simp [ht'],rfl⟩
 ·have ht':(x/16384 == 0)=false:=by simpa using ht
  clear ht;go_enter Tryz.func91,Tryz.ntmps91;go_wp2_with (go_at_call 127;refine (dY 50 1125899906842623 _ (by omega)).mono ?_;rintro e w' ⟨rfl,rfl⟩);go_ret;exact ⟨by simp [ht'],rfl⟩
theorem ud (x:Int) (w:World) (h0:0≤x) (h1:x≤18446744073709551615):
 Calls Tryz.prog 155 #[.int .u64 x] w fun e w'=>e=.returned (.int .u64 (dK x))∧w'=w:=by
 have H:Hid (bits .and .u64 (x/1024) 17592186044415=dK x):=ew 44 (x/1024) 17592186044415 rfl (by omega) (by omega) (by omega);go_enter Tryz.func155,Tryz.ntmps155;go_wp2_with (go_at_call 127;refine (dY 44 17592186044415 _ (by omega)).mono ?_;rintro e w' ⟨rfl,rfl⟩);go_ret;exact ⟨dB H.out,rfl⟩
theorem ue (x:Int) (w:World) (h0:0≤x) (h1:x≤18446744073709551615):
 Calls Tryz.prog 167 #[.int .u64 x] w fun e w'=>e=.returned (.int .u64 (x/18014398509481984%1024))∧w'=w:=by
 have H:Hid (x/18014398509481984=x/18014398509481984%1024):=show _=_ by omega
 go_enter Tryz.func167,Tryz.ntmps167;go_wp2_with fail;go_ret;exact ⟨dB H.out,rfl⟩
def rz (x:Int):Bool:=bK x 1 && (x/18014398509481984%1024 == 0) && !(bK x 4 && !bK x 2)
theorem jP (x:Int) (w:World) (h0:0≤x) (h1:x≤18446744073709551615):
 Calls Tryz.prog 164 #[.int .u64 x] w fun e w'=>e=.returned (.bool (rz x))∧w'=w:=by
 have HV:Hid (kK x 1=bK x 1):=ep 0 x 1 rfl (by omega) h0 h1;have HR:Hid (kK x 2=bK x 2):=ep 1 x 2 rfl (by omega) h0 h1;have HW:Hid (kK x 4=bK x 4):=ep 2 x 4 rfl (by omega) h0 h1;cases hw:bK x 4 <;> cases hr:bK x 2 <;> cases hv:bK x 1;all_goals
  go_enter Tryz.func164,Tryz.ntmps164;go_wp2_with (first
   | (go_at_call 144;refine (ee x _ _).mono ?_;rintro e w' ⟨rfl,rfl⟩;first | rw [HW.out,hw] | rw [HR.out,hr] | rw [HV.out,hv])
   | (go_at_call 167;refine (ue x _ h0 h1).mono ?_;rintro e w' ⟨rfl,rfl⟩))
  all_goals
   go_ret;exact ⟨aF (by simp [rz,hw,hr,hv];try assumption),rfl⟩
theorem rA (x level:Int) (w:World) (h0:0≤x) (h1:x≤18446744073709551615) (hl:level=0∨level=1∨level=2):
 Calls Tryz.prog 165 #[.int .u64 x,.int .i64 level] w fun e w'=>e=.returned (.bool (dK x%iC level == 0))∧w'=w:=by
 have hpp:0≤dK x∧dK x<17592186044416:=⟨Int.emod_nonneg _ (by omega),Int.emod_lt_of_pos _ (by omega)⟩;have HP:∀w,Hid (Calls Tryz.prog 155 #[.int .u64 x] w fun e w'=>e=.returned (.int .u64 (dK x))∧w'=w):=fun w=>ud x w h0 h1;generalize dK x=p at *;rcases hl with rfl | rfl | rfl
 ·have H:Hid ((bits .and .u64 p 0 == 0)=(p%iC 0 == 0)):=by
   show _=_;rw [ew 0 p 0 rfl (by omega) hpp.1 (by omega)];rfl
  go_enter Tryz.func165,Tryz.ntmps165;go_wp2_with (first
   | (go_at_call 155;refine ((HP _).out).mono ?_;rintro e w' ⟨rfl,rfl⟩)
   | (go_at_call 127;refine (dY 0 0 _ (by omega)).mono ?_;rintro e w' ⟨rfl,rfl⟩))
  go_ret;exact ⟨aF H.out,rfl⟩
 ·have H:Hid ((bits .and .u64 p 7 == 0)=(p%iC 1 == 0)):=by
   show _=_;rw [ew 3 p 7 rfl (by omega) hpp.1 (by omega)];rfl
  go_enter Tryz.func165,Tryz.ntmps165;go_wp2_with (first
   | (go_at_call 155;refine ((HP _).out).mono ?_;rintro e w' ⟨rfl,rfl⟩)
   | (go_at_call 127;refine (dY 3 7 _ (by omega)).mono ?_;rintro e w' ⟨rfl,rfl⟩))
  go_ret;exact ⟨aF H.out,rfl⟩
 ·have H:Hid ((bits .and .u64 p 63 == 0)=(p%iC 2 == 0)):=by
   show _=_;rw [ew 6 p 63 rfl (by omega) hpp.1 (by omega)];rfl
  go_enter Tryz.func165,Tryz.ntmps165;go_wp2_with (first
   | (go_at_call 155;refine ((HP _).out).mono ?_;rintro e w' ⟨rfl,rfl⟩)
   | (go_at_call 127;refine (dY 6 63 _ (by omega)).mono ?_;rintro e w' ⟨rfl,rfl⟩))
  go_ret;exact ⟨aF H.out,rfl⟩
theorem dV (l:Int) (w:World):
 Calls Tryz.prog 142 #[.int .i64 l] w fun e w'=>e=.returned (.bool (decide (0≤l∧l≤2)))∧w'=w:=by
 by_cases h:0≤l
 ·go_enter Tryz.func142,Tryz.ntmps142;go_wp2_with fail;go_ret;exact ⟨aF (by simp [h]),rfl⟩
 ·go_enter Tryz.func142,Tryz.ntmps142;go_wp2_with fail;go_ret;exact ⟨aF (by simp;omega),rfl⟩
set_option maxHeartbeats 800000 in
theorem oM (x level:Int) (w:World) (h0:0≤x) (h1:x≤18446744073709551615):
 Calls Tryz.prog 157 #[.int .u64 x,.int .i64 level] w fun e w'=>e=.returned (.int .i64 (bC x level))∧w'=w:=by
 by_cases hlev:0≤level∧level≤2
 ·have hk:decide (0≤level∧level≤2)=true:=by simpa using hlev
  have HK:Hid (decide (0≤level∧level≤2)=true):=hk;have hl:level=0∨level=1∨level=2:=by omega
  clear hk hlev;have HR:Hid (kK x 14=(bK x 2 || bK x 4 || bK x 8)):=zA x h0 h1;have HU:Hid (kK x 208=(bK x 16 || bK x 64 || bK x 128)):=zB x h0 h1;cases hs:rz x
  ·have HE:Hid (bC x level=0):=by
    show _=_;simp only [bC];rw [if_pos];simp only [rz] at hs;cases hv:bK x 1
    ·simp
    ·rw [hv] at hs;by_cases hb:0<x/18014398509481984%1024
     ·simp [hb]
     ·have hb':x/18014398509481984%1024=0:=by omega
      rw [hb'] at hs ⊢;simp at hs;simp [hs]
   go_enter Tryz.func157,Tryz.ntmps157;go_wp2_with (first
    | (go_at_call 142;refine (dV level _).mono ?_;rintro e w' ⟨rfl,rfl⟩;rw [HK.out])
    | (go_at_call 164;refine (jP x _ h0 h1).mono ?_;rintro e w' ⟨rfl,rfl⟩;rw [hs]))
   go_ret;exact ⟨cA HE.out.symm,rfl⟩
  ·have hn:¬(level<0∨2<level∨bK x 1=false∨0<x/18014398509481984%1024∨(bK x 4=true∧bK x 2=false)):=by
    simp only [rz,Bool.and_eq_true,beq_iff_eq,Bool.not_eq_true',Bool.and_eq_false_iff,Bool.not_eq_false'] at hs;obtain ⟨⟨a1,a2⟩,a3⟩:=hs;rw [a1,a2];rcases a3 with a3 | a3
    ·simp [a3];omega
    ·simp [a3];omega
   have HE:Hid (bC x level=if bK x 2=false∧bK x 4=false∧bK x 8=false then (if level=0∨bK x 16=true∨bK x 64=true∨bK x 128=true then 0 else 1) else if 0<dK x%iC level then 0 else 2):=by
    show _=_;rw [bC,if_neg hn]
   clear hn;cases hr:(bK x 2 || bK x 4 || bK x 8)
   ·simp only [Bool.or_eq_false_iff] at hr;have HE2:Hid (bC x level=if level=0∨bK x 16=true∨bK x 64=true∨bK x 128=true then 0 else 1):=by
     show _=_;rw [HE.out,if_pos ⟨hr.1.1,hr.1.2,hr.2⟩]
    clear HE;have HR':Hid (kK x 14=false):=by show _=_;rw [HR.out,hr.1.1,hr.1.2,hr.2];rfl
    clear HR hr;by_cases hz:level=0
    ·subst hz;go_enter Tryz.func157,Tryz.ntmps157;go_wp2_with (first
      | (go_at_call 142;refine (dV 0 _).mono ?_;rintro e w' ⟨rfl,rfl⟩;rw [HK.out])
      | (go_at_call 164;refine (jP x _ h0 h1).mono ?_;rintro e w' ⟨rfl,rfl⟩;rw [hs])
      | (go_at_call 144;refine (ee x _ _).mono ?_;rintro e w' ⟨rfl,rfl⟩;rw [HR'.out]))
     go_ret;exact ⟨cA (by rw [HE2.out];simp),rfl⟩
    ·have hz':(level == 0)=false:=by simpa using hz
     cases hu:(bK x 16 || bK x 64 || bK x 128)
     ·have HE3:Hid (bC x level=1):=by
       show _=_;simp only [Bool.or_eq_false_iff] at hu;rw [HE2.out,hu.1.1,hu.1.2,hu.2];simp [hz]
      go_enter Tryz.func157,Tryz.ntmps157;go_wp2_with (first
       | (go_at_call 142;refine (dV level _).mono ?_;rintro e w' ⟨rfl,rfl⟩;rw [HK.out])
       | (go_at_call 164;refine (jP x _ h0 h1).mono ?_;rintro e w' ⟨rfl,rfl⟩;rw [hs])
       | (go_at_call 144;refine (ee x _ _).mono ?_;rintro e w' ⟨rfl,rfl⟩;first | rw [HR'.out] | rw [HU.out,hu]))
      go_ret;exact ⟨cA HE3.out.symm,rfl⟩
     ·have HE3:Hid (bC x level=0):=by
       show _=_;simp only [Bool.or_eq_true] at hu;rw [HE2.out,if_pos];rcases hu with (hu | hu) | hu <;> simp [hu]
      go_enter Tryz.func157,Tryz.ntmps157;go_wp2_with (first
       | (go_at_call 142;refine (dV level _).mono ?_;rintro e w' ⟨rfl,rfl⟩;rw [HK.out])
       | (go_at_call 164;refine (jP x _ h0 h1).mono ?_;rintro e w' ⟨rfl,rfl⟩;rw [hs])
       | (go_at_call 144;refine (ee x _ _).mono ?_;rintro e w' ⟨rfl,rfl⟩;first | rw [HR'.out] | rw [HU.out,hu]))
      go_ret;exact ⟨cA HE3.out.symm,rfl⟩
   ·have HR':Hid (kK x 14=true):=by show _=_;rw [HR.out,hr]
    have HE2:Hid (bC x level=if 0<dK x%iC level then 0 else 2):=by
     show _=_;rw [HE.out,if_neg];rintro ⟨q1,q2,q3⟩;rw [q1,q2,q3] at hr;cases hr
    clear HE HR hr;have hnn:0≤dK x%iC level:=by
     apply Int.emod_nonneg;rcases hl with rfl | rfl | rfl <;> decide
    cases ha:(dK x%iC level == 0)
    ·have HE3:Hid (bC x level=0):=by
      show _=_;have:dK x%iC level≠0:=by simpa using ha
      rw [HE2.out,if_pos (by omega)]
     clear hnn;go_enter Tryz.func157,Tryz.ntmps157;go_wp2_with (first
      | (go_at_call 142;refine (dV level _).mono ?_;rintro e w' ⟨rfl,rfl⟩;rw [HK.out])
      | (go_at_call 164;refine (jP x _ h0 h1).mono ?_;rintro e w' ⟨rfl,rfl⟩;rw [hs])
      | (go_at_call 144;refine (ee x _ _).mono ?_;rintro e w' ⟨rfl,rfl⟩;rw [HR'.out])
      | (go_at_call 165;refine (rA x level _ h0 h1 hl).mono ?_;rintro e w' ⟨rfl,rfl⟩;rw [ha]))
     go_ret;exact ⟨cA HE3.out.symm,rfl⟩
    ·have HE3:Hid (bC x level=2):=by
      show _=_;have:dK x%iC level=0:=by simpa using ha
      rw [HE2.out,if_neg (by omega)]
     clear hnn;go_enter Tryz.func157,Tryz.ntmps157;go_wp2_with (first
      | (go_at_call 142;refine (dV level _).mono ?_;rintro e w' ⟨rfl,rfl⟩;rw [HK.out])
      | (go_at_call 164;refine (jP x _ h0 h1).mono ?_;rintro e w' ⟨rfl,rfl⟩;rw [hs])
      | (go_at_call 144;refine (ee x _ _).mono ?_;rintro e w' ⟨rfl,rfl⟩;rw [HR'.out])
      | (go_at_call 165;refine (rA x level _ h0 h1 hl).mono ?_;rintro e w' ⟨rfl,rfl⟩;rw [ha]))
     go_ret;exact ⟨cA HE3.out.symm,rfl⟩
 ·have HK:Hid (decide (0≤level∧level≤2)=false):=by show _=_;simpa using hlev
  have HE:Hid (bC x level=0):=by
   show _=_;rw [bC,if_pos (by omega)]
  clear hlev;go_enter Tryz.func157,Tryz.ntmps157;go_wp2_with (go_at_call 142;refine (dV level _).mono ?_;rintro e w' ⟨rfl,rfl⟩;rw [HK.out]);go_ret;exact ⟨cA HE.out.symm,rfl⟩
end Go.Proofs.YtaoaifmkhbgaiaaGreat
