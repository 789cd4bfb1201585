import Derived.Test.YthekickjjaleaaaGreatPack07
import Derived.Test.YthekickjjaleaaaGreatPack03
import Derived.Test.YthekickjjaleaaaGreatPack01
import Derived.Test.YthekickjjaleaaaGreatPack04
import Derived.Test.YthekickjjaleaaaGreatPack06
import Derived.Test.YthekickjjaleaaaGreatPack05
import Derived.Deep.RegionLaw
namespace Go.Proofs.YthekickjjaleaaaGreat
open Go.RowKit
set_option linter.unusedVariables false
def xi (acc:List eh) (r:Int × Int × Int × List eh):Int × Int × Int × List eh:=(r.1,r.2.1,r.2.2.1,acc++r.2.2.2)
theorem uo (zs:List Int) (va:Int) (k:Nat) (n:Int) (h:ed zs.length (64*n+8*dq va k) 8=false):cH zs va k n=(3,(k:Int),0,[]):=by
 unfold cH;rw [if_pos h]
theorem uq (zs:List Int) (va:Int) (k:Nat) (n:Int) (h:ed zs.length (64*n+8*dq va k) 8=true) (hk:bC (rdV zs (64*n+8*dq va k) 8) k=0):cH zs va k n=(2,(k:Int),0,[]):=by
 unfold cH;rw [if_neg (by rw [h];simp),if_pos hk]
theorem sZ (zs:List Int) (va:Int) (k:Nat) (n:Int) (h:ed zs.length (64*n+8*dq va k) 8=true) (hk:bC (rdV zs (64*n+8*dq va k) 8) k=2):cH zs va k n=(1,(k:Int),rdV zs (64*n+8*dq va k) 8,[((k:Int),64*n+8*dq va k,rdV zs (64*n+8*dq va k) 8)]):=by
 unfold cH;rw [if_neg (by rw [h];simp),if_neg (by rw [hk];decide),if_pos hk]
theorem ta (zs:List Int) (va:Int) (k:Nat) (n:Int) (h:ed zs.length (64*n+8*dq va ((k+1:Nat):Int)) 8=true) (hk:bC (rdV zs (64*n+8*dq va ((k+1:Nat):Int)) 8) ((k+1:Nat):Int)=1):
 cH zs va (k+1) n=xi [(((k+1:Nat):Int),64*n+8*dq va ((k+1:Nat):Int),rdV zs (64*n+8*dq va ((k+1:Nat):Int)) 8)] (cH zs va k (dy (rdV zs (64*n+8*dq va ((k+1:Nat):Int)) 8))):=by
 rw [cH,if_neg (by rw [h];simp),if_neg (by rw [hk];decide),if_neg (by rw [hk];decide)];rfl
def SrcAt (w:World) (sv:Value) (zs:List Int):Prop:=
 ∃d x a len cap,sv=.iface d x∧(∀u,Below w.heap.size w u→(method 468 d x "loop.example/s0051/impl.entryAt").run Tryz.prog u=.ok (275,.slice a len cap) u)∧Byt w a len zs∧len≤1048576
theorem SrcAt.keep {w w':World} {sv:Value} {zs:List Int} (h:SrcAt w sv zs) (hb:Below w.heap.size w w'):SrcAt w' sv zs:=by
 obtain ⟨d,x,a,len,cap,rfl,hm,hB,hl⟩:=h;exact ⟨d,x,a,len,cap,rfl,fun u hu=>hm u (Below.step hb hu (Nat.le_refl _)),hB.keep hb,hl⟩
theorem SrcAt.bd {w:World} {sv:Value} {zs:List Int} (h:SrcAt w sv zs):∀i:Nat,0≤zs[i]?.getD 0∧zs[i]?.getD 0≤255:=by
 obtain ⟨d,x,a,len,cap,rfl,hm,hB,hl⟩:=h;exact hB.2.1
end Go.Proofs.YthekickjjaleaaaGreat

namespace Go.Proofs.YthekickjjaleaaaGreat
set_option linter.unusedVariables false
theorem r6 (va l:Int) (hl:l=0∨l=1∨l=2):0≤ev va l∧ev va l≤511:=by
 rcases hl with rfl | rfl | rfl <;> simp only [ev] <;> (try simp) <;> omega
theorem wE {t:TlbM} {p:Bool} {va asid l:Int} {q:Nat} {x:EntM} (hv:aI t p=true) (hx:t.es[q]?=some x) (hh:fm va asid l x=true):(q:Int)/t.ways=ev va l%t.sets:=by
 have hp:=jA hv q x hx;simp only [fm,fS,Bool.and_eq_true,beq_iff_eq] at hh;obtain ⟨h1,⟨h2,h3⟩,_⟩:=hh;simp only [bK,Bool.or_eq_true,Bool.and_eq_true,beq_iff_eq] at hp;rcases hp with hp | hp
 ·rw [h2] at hp;simp at hp
 ·rw [←hp.2,h3,h1]
theorem r8 {t:TlbM} {p:Bool} (hv:aI t p=true):(t.sets=1∨t.sets=2∨t.sets=4∨t.sets=8)∧1≤t.ways∧t.ways≤4∧(t.es.length:Int)=t.sets*t.ways:=fu hv
theorem qX {t:TlbM} {p:Bool} {va asid l:Int} {q f:Nat} {x:EntM} (hv:aI t p=true) (hx:t.es[q]?=some x) (hf:(f:Int)=ev va l%t.sets*t.ways) (hq:q<f∨(f:Int)+t.ways≤q):fm va asid l x=false:=by
 cases hh:fm va asid l x
 ·rfl
 ·exfalso;have h1:=wE hv hx hh;obtain ⟨_,w1,w4,_⟩:=r8 hv;rw [←h1] at hf;rcases (show t.ways=1∨t.ways=2∨t.ways=3∨t.ways=4 by omega) with hw | hw | hw | hw <;> rw [hw] at hf hq <;> omega
theorem uC {t:TlbM} {p:Bool} {va asid l:Int} {f:Nat} (hv:aI t p=true) (hf:(f:Int)=ev va l%t.sets*t.ways)
 (h:∀(j:Nat) x,(j:Int)<t.ways→t.es[f+j]?=some x→fm va asid l x=false):de va asid l 0 t.es=none:=by
 refine iI va asid l t.es 0 (fun j x hx=>?_);by_cases h1:j<f
 ·exact qX hv hx hf (.inl h1)
 ·by_cases h2:(f:Int)+t.ways≤j
  ·exact qX hv hx hf (.inr h2)
  ·exact h (j-f) x (by omega) (by rw [show f+(j-f)=j by omega];exact hx)
theorem uD {t:TlbM} {p:Bool} {va asid l:Int} {f k:Nat} {x:EntM} (hv:aI t p=true) (hf:(f:Int)=ev va l%t.sets*t.ways) (hx:t.es[f+k]?=some x) (hh:fm va asid l x=true)
 (h:∀(j:Nat) y,j<k→t.es[f+j]?=some y→fm va asid l y=false):de va asid l 0 t.es=some (f+k,x):=by
 have:=kc va asid l t.es 0 (f+k) x hx hh (fun j y hj hy=>by
  by_cases h1:j<f
  ·exact qX hv hy hf (.inl h1)
  ·exact h (j-f) y (by omega) (by rw [show f+(j-f)=j by omega];exact hy))
 rw [Nat.zero_add] at this;exact this
theorem qj (va asid l:Int):∀(es:List EntM) (i k:Nat) (x:EntM),de va asid l i es=some (k,x)→∃j,k=i+j∧es[j]?=some x∧fm va asid l x=true
 | [],i,k,x,h=>by cases h
 | e::r,i,k,x,h=>by
  rw [de] at h;split at h
  ·rename_i hh;cases h;exact ⟨0,rfl,rfl,hh⟩
  ·obtain ⟨j,rfl,h2,h3⟩:=qj va asid l r (i+1) k x h;exact ⟨j+1,by omega,by simpa using h2,h3⟩
theorem nx (t:TlbM) (va asid:Int) (h:(aY t va asid).1=true):∃(k:Nat) (x:EntM),t.es[k]?=some x∧(aY t va asid).2.1=(k:Int)∧(aY t va asid).2.2.1=x.level∧(aY t va asid).2.2.2=x.pte∧fS x va asid=true∧x.valid=true:=by
 have key:∀(l:Int) (k:Nat) (x:EntM),de va asid l 0 t.es=some (k,x)→t.es[k]?=some x∧l=x.level∧fS x va asid=true∧x.valid=true:=by
  intro l k x hf;obtain ⟨j,rfl,h2,h3⟩:=qj va asid l t.es 0 k x hf;simp only [fm,Bool.and_eq_true,beq_iff_eq] at h3;have hv:x.valid=true:=by
   have:=h3.2;simp only [fS,Bool.and_eq_true] at this;exact this.1.1
  exact ⟨by rw [Nat.zero_add];exact h2,h3.1.symm,h3.2,hv⟩
 unfold aY at h ⊢;split at h
 ·cases h
 ·rename_i he;rw [if_neg he];cases h0:de va asid 0 0 t.es with
  | some y=>
   obtain ⟨k,x⟩:=y;obtain ⟨a1,a2,a3,a4⟩:=key 0 k x h0;exact ⟨k,x,a1,by simp [fJ],by simp [fJ,←a2],by simp [fJ],a3,a4⟩
  | none=>
   cases h1:de va asid 1 0 t.es with
   | some y=>
    obtain ⟨k,x⟩:=y;obtain ⟨a1,a2,a3,a4⟩:=key 1 k x h1;exact ⟨k,x,a1,by simp [fJ],by simp [fJ,←a2],by simp [fJ],a3,a4⟩
   | none=>
    cases h2:de va asid 2 0 t.es with
    | some y=>
     obtain ⟨k,x⟩:=y;obtain ⟨a1,a2,a3,a4⟩:=key 2 k x h2;exact ⟨k,x,a1,by simp [fJ],by simp [fJ,←a2],by simp [fJ],a3,a4⟩
    | none=>
     rw [h0,h1,h2] at h;simp [fJ] at h
theorem pe {t:TlbM} {va asid i l pt:Int} (h:aY t va asid=(false,i,l,pt)):(i,l,pt)=(0,0,0):=by
 unfold aY at h;split at h
 ·cases h;rfl
 ·cases h0:de va asid 0 0 t.es with
  | some y=>simp [h0,fJ] at h
  | none=>
   cases h1:de va asid 1 0 t.es with
   | some y=>simp [h0,h1,fJ] at h
   | none=>
    cases h2:de va asid 2 0 t.es with
    | some y=>simp [h0,h1,h2,fJ] at h
    | none=>
     simp [h0,h1,h2,fJ] at h;obtain ⟨rfl,rfl,rfl⟩:=h;rfl
end Go.Proofs.YthekickjjaleaaaGreat

namespace Go.Proofs.YthekickjjaleaaaGreat
set_option linter.unusedVariables false
def p6 (r:Int × Int × Int × List eh) (k:Nat) (ps:List eh):Prop:=
 (∀p∈ps,bC p.2.2 p.1=1∧0≤p.1∧p.1≤k∧0≤p.2.2∧p.2.2≤18446744073709551615)∧
 ((r.1=1∧(∃ad,r.2.2.2=ps++[(r.2.1,ad,r.2.2.1)])∧bC r.2.2.1 r.2.1=2∧0≤r.2.1∧r.2.1≤k∧0≤r.2.2.1∧r.2.2.1≤18446744073709551615)∨((r.1=2∨r.1=3)∧r.2.2.2=ps∧r.2.2.1=0))
theorem jk (zs:List Int) (va:Int) (hz:∀i:Nat,0≤zs[i]?.getD 0∧zs[i]?.getD 0≤255):∀(k:Nat) (n:Int),∃ps,p6 (cH zs va k n) k ps∧ps.length≤k
 | k,n=>by
  cases hg:ed zs.length (64*n+8*dq va k) 8
  ·rw [uo zs va k n hg];exact ⟨[],⟨by simp,.inr ⟨.inr rfl,rfl,rfl⟩⟩,by simp⟩
  ·have hb:=lX zs (64*n+8*dq va k) 8 (by omega) hz;rcases lZ (rdV zs (64*n+8*dq va k) 8) (k:Int) with hk | hk | hk
   ·rw [uq zs va k n hg hk];exact ⟨[],⟨by simp,.inr ⟨.inl rfl,rfl,rfl⟩⟩,by simp⟩
   ·cases k with
    | zero=>exact absurd hk (ke _)
    | succ k'=>
     rw [ta zs va k' n hg hk];obtain ⟨ps,⟨h1,h2⟩,h3⟩:=jk zs va hz k' (dy (rdV zs (64*n+8*dq va ((k'+1:Nat):Int)) 8));refine ⟨(((k'+1:Nat):Int),64*n+8*dq va ((k'+1:Nat):Int),rdV zs (64*n+8*dq va ((k'+1:Nat):Int)) 8)::ps,⟨?_,?_⟩,by simp;omega⟩
     ·intro p hp;rcases List.mem_cons.1 hp with rfl | hp
      ·exact ⟨hk,by simp only;omega,by simp only;omega,hb.1,hb.2⟩
      ·obtain ⟨q1,q2,q3,q4⟩:=h1 p hp;exact ⟨q1,q2,by omega,q4⟩
     ·simp only [xi];rcases h2 with ⟨e1,⟨ad,e2⟩,e3,e4,e5,e6⟩ | ⟨e1,e2,e3⟩
      ·exact .inl ⟨e1,⟨ad,by rw [e2];rfl⟩,e3,e4,by omega,e6⟩
      ·exact .inr ⟨e1,by rw [e2];rfl,e3⟩
   ·rw [sZ zs va k n hg hk];exact ⟨[],⟨by simp,.inl ⟨rfl,⟨_,rfl⟩,hk,by simp only;omega,Int.le_refl _,hb.1,hb.2⟩⟩,by simp⟩
theorem rI (zs:List Int) (root va:Int) (hz:∀i:Nat,0≤zs[i]?.getD 0∧zs[i]?.getD 0≤255):∃ps,p6 (cf zs root va) 2 ps∧ps.length≤2:=by
 unfold cf;split
 ·exact ⟨[],⟨by simp,.inr ⟨.inl rfl,rfl,rfl⟩⟩,by simp⟩
 ·exact jk zs va hz 2 _
theorem sR {r:Int × Int × Int × List eh} {k k':Nat} {ps:List eh} (h:p6 r k ps) (hk:k≤k'):p6 r k' ps:=by
 obtain ⟨h1,h2⟩:=h;refine ⟨fun p hp=>?_,?_⟩
 ·obtain ⟨q1,q2,q3,q4⟩:=h1 p hp;exact ⟨q1,q2,by omega,q4⟩
 ·rcases h2 with ⟨e1,e2,e3,e4,e5,e6⟩ | h2
  ·exact .inl ⟨e1,e2,e3,e4,by omega,e6⟩
  ·exact .inr h2
theorem pM (zs:List Int) (satp va:Int) (t:TlbM) (asid:Int) (ht:aI t true=true) (hz:∀i:Nat,0≤zs[i]?.getD 0∧zs[i]?.getD 0≤255):∃ps,p6 (ck zs satp va (aY t va asid)) 2 ps∧ps.length≤2:=by
 unfold ck;split
 ·rename_i hf;obtain ⟨q,x,h1,h2,h3,h4,h5,h6⟩:=nx t va asid hf;have hl:=ei (eR ht) q x h1 h6;have hle:((aY t va asid).2.2.1-1).toNat≤2:=by rw [h3];omega
  obtain ⟨ps,a1,a2⟩:=jk zs va hz ((aY t va asid).2.2.1-1).toNat (dy (aY t va asid).2.2.2);exact ⟨ps,sR a1 hle,by omega⟩
 ·exact rI zs satp va hz
theorem mG (va satp pick:Int):∀(a b:List eh) (p:TlbM),dU va satp pick (a++b) p=dU va satp pick b (dU va satp pick a p)
 | [],b,p=>rfl
 | r::a,b,p=>by
  rw [List.cons_append,dU,dU];exact mG va satp pick a b _
theorem fh (t:TlbM) (e:EntM) (pick:Int):(cE t e pick).es.length=t.es.length∧(cE t e pick).sets=t.sets∧(cE t e pick).ways=t.ways:=by
 unfold cE;split
 ·simp
 ·exact ⟨rfl,rfl,rfl⟩
theorem oF (va satp pick:Int):∀(rs:List eh) (p:TlbM),(dU va satp pick rs p).es.length=p.es.length∧(dU va satp pick rs p).sets=p.sets∧(dU va satp pick rs p).ways=p.ways
 | [],p=>⟨rfl,rfl,rfl⟩
 | r::rs,p=>by
  rw [dU];have ih:=oF va satp pick rs (if bC r.2.2 r.1=1 then cE p (eF r.1 va satp r.2.2) pick else p);split at ih
  ·rename_i hk;rw [if_pos hk];have h:=fh p (eF r.1 va satp r.2.2) pick;exact ⟨ih.1.trans h.1,ih.2.1.trans h.2.1,ih.2.2.trans h.2.2⟩
  ·rename_i hk;rw [if_neg hk];exact ih
end Go.Proofs.YthekickjjaleaaaGreat

namespace Go.Proofs.YthekickjjaleaaaGreat
theorem rd (t:TlbM) (va asid:Int) (he:∀e∈t.es,da e) (h:(aY t va asid).1=true):(0≤(aY t va asid).2.2.2∧(aY t va asid).2.2.2≤18446744073709551615)∧(-9223372036854775808≤(aY t va asid).2.2.1∧(aY t va asid).2.2.1≤9223372036854775807):=by
 obtain ⟨k,x,hx,_,hl,hp,_⟩:=nx t va asid h;have hk:=he x (List.mem_of_getElem? hx);rw [hl,hp];exact ⟨hk.2.2.2,hk.1⟩
end Go.Proofs.YthekickjjaleaaaGreat

namespace Go.Proofs.YthekickjjaleaaaGreat
set_option linter.unusedVariables false
theorem qh (zs:List Int) (root va:Int):(cf zs root va).2.2.2.length≤3:=by
 unfold cf;split
 ·simp
 ·exact jO zs va 2 _
structure WalkLim (r:Int × Int × Int × List eh):Prop where
 len:r.2.2.2.length≤3
 pte:0≤r.2.2.1∧r.2.2.1≤18446744073709551615
 level:0≤r.2.1∧r.2.1≤2
 recs:∀x∈r.2.2.2,(0≤x.1∧x.1≤2)∧0≤x.2.2∧x.2.2≤18446744073709551615
theorem oW {r:Int × Int × Int × List eh} {ps:List eh} (h:p6 r 2 ps):∀x∈r.2.2.2,(0≤x.1∧x.1≤2)∧0≤x.2.2∧x.2.2≤18446744073709551615:=by
 obtain ⟨h1,h2⟩:=h;intro x hx;rcases h2 with ⟨_,⟨ad,e⟩,_,e4,e5,e6,e7⟩ | ⟨_,e,_⟩
 ·rw [e] at hx;rcases List.mem_append.1 hx with hx | hx
  ·obtain ⟨_,q2,q3,q4,q5⟩:=h1 x hx;exact ⟨⟨q2,by omega⟩,q4,q5⟩
  ·have:x=(r.2.1,ad,r.2.2.1):=by simpa using hx
   subst this;exact ⟨⟨e4,by omega⟩,e6,e7⟩
 ·rw [e] at hx;obtain ⟨_,q2,q3,q4,q5⟩:=h1 x hx;exact ⟨⟨q2,by omega⟩,q4,q5⟩
theorem kV (zs:List Int) (satp va:Int) (t:TlbM) (asid:Int) (ht:aI t true=true) (he:∀e∈t.es,da e) (hz:∀i:Nat,0≤zs[i]?.getD 0∧zs[i]?.getD 0≤255):
 ((aY t va asid).1=true→∃l:Nat,(aY t va asid).2.2.1=(l:Int)+1∧l≤1∧0≤(aY t va asid).2.2.2∧(aY t va asid).2.2.2≤18446744073709551615∧ck zs satp va (aY t va asid)=cH zs va l (dy (aY t va asid).2.2.2))∧
 ((aY t va asid).1=false→ck zs satp va (aY t va asid)=cf zs satp va)∧WalkLim (ck zs satp va (aY t va asid)):=by
 obtain ⟨ps,hs,_⟩:=pM zs satp va t asid ht hz;cases hf:(aY t va asid).1
 ·have e:ck zs satp va (aY t va asid)=cf zs satp va:=by rw [ck,if_neg (by rw [hf];simp)]
  have hb:=rS zs satp va hz;refine ⟨fun h=>(by cases h),fun _=>e,?_⟩;have hr:=oW hs;rw [e] at hr ⊢;exact ⟨qh zs satp va,⟨hb.1,hb.2.1⟩,hb.2.2,hr⟩
 ·obtain ⟨q,x,h1,h2,h3,h4,h5,h6⟩:=nx t va asid hf;have hl:=ei (eR ht) q x h1 h6;have hpl:=jA ht q x h1;have hlim:=(rd t va asid he hf).1;have hk1:x.level≠0:=by
   intro h0;have hg:aO x true=true:=by
    simp only [bK,Bool.or_eq_true,Bool.and_eq_true] at hpl;have h7:aO x true=true∧x.tag%t.sets=q/t.ways:=by simpa [h6] using hpl
    exact h7.1
   have:=uE hg;rw [h0] at this;exact ke _ this
  have e:ck zs satp va (aY t va asid)=cH zs va ((aY t va asid).2.2.1-1).toNat (dy (aY t va asid).2.2.2):=by rw [ck,if_pos hf]
  have hb:=oP zs va hz ((aY t va asid).2.2.1-1).toNat (dy (aY t va asid).2.2.2) (by rw [h3];omega);refine ⟨fun _=>⟨((aY t va asid).2.2.1-1).toNat,by rw [h3];omega,by rw [h3];omega,hlim.1,hlim.2,e⟩,fun h=>(by cases h),?_⟩;have hr:=oW hs;have hln:=jO zs va ((aY t va asid).2.2.1-1).toNat (dy (aY t va asid).2.2.2);rw [e] at hr ⊢;exact ⟨by rw [h3] at hln ⊢;omega,⟨hb.1,hb.2.1⟩,hb.2.2,hr⟩
end Go.Proofs.YthekickjjaleaaaGreat

namespace Go.Proofs.YthekickjjaleaaaGreat
open Go.RowKit
set_option linter.unusedVariables false
attribute [local go_sem ↓] Go.wp_at_zero Go.wp_at_succ
theorem Tryz.infoEnt:(Tryz.prog.info? 83).map (fun i=>(i.zero,i.size,i.bytes))=some (some (.agg #[.bool false,.int .i64 0,.int .u64 0,.int .u64 0,.bool false,.int .u64 0]),6,48):=by kernel_rfl
theorem jJ:∀es:List EntM,∀u∈aG es,u.oneCell'=true
 | [],u,h=>by simp [aG] at h
 | e::r,u,h=>by
  simp only [aG,List.mem_append] at h;rcases h with h | h
  ·simp [gX] at h;rcases h with rfl | rfl | rfl | rfl | rfl | rfl <;> rfl
  ·exact jJ r u h
def TlbOwn (base:Nat) (w:World) (v:Value) (t:TlbM):Prop:=
 ∃g cap,v=.agg #[.int .i64 t.sets,.int .i64 t.ways,.slice (some ⟨g,0,none⟩) t.es.length cap]∧w.ownsRow base 83 6 (.slice (some ⟨g,0,none⟩) t.es.length cap) t.es.length (aG t.es)
set_option maxRecDepth 20000 in
set_option maxHeartbeats 1600000 in
theorem fe (v:Value) (t:TlbM) (w:World) (h:TlbAt w v t):
 Calls Tryz.prog 124 #[v] w fun e w'=>(∃x,e=.returned x∧TlbOwn w.heap.size w' x t)∧Below w.heap.size w w':=by
 have HT:Hid (TlbAt w v t):=h;obtain ⟨a,cap,rfl,hr,_,_,_,hl,hlc,hcm,hnil,hsp⟩:=h;obtain ⟨sets,ways,es⟩:=t;obtain ⟨n,hn⟩:∃n,es.length=n:=⟨_,rfl⟩;simp only at hr hl hlc hnil ⊢;rw [hn] at hr hl hlc hnil ⊢;have n1:=((Below.refl w.heap.size w).alloc (Nat.le_refl _) (Obj.cells #[.int .i64 sets,.int .i64 ways,.slice a n cap] 41)).alloc (by simp) (Obj.cells #[.int .i64 0,.int .i64 0,.slice none 0 0] 41);have HR1:Hid (RowC ((w.alloc (Obj.cells #[.int .i64 sets,.int .i64 ways,.slice a n cap] 41)).alloc (Obj.cells #[.int .i64 0,.int .i64 0,.slice none 0 0] 41)) a n 6 (aG es)):=hr.keep n1;have H1:Hid (((w.alloc (Obj.cells #[.int .i64 sets,.int .i64 ways,.slice a n cap] 41)).alloc (Obj.cells #[.int .i64 0,.int .i64 0,.slice none 0 0] 41)).heap[w.heap.size]?=some (.cells #[.int .i64 sets,.int .i64 ways,.slice a n cap] 41 (0,0))):=by
  show _=_;rw [heap_alloc_old _ _ (by simp)];exact heap_alloc_new w _
 have H2:Hid (((w.alloc (Obj.cells #[.int .i64 sets,.int .i64 ways,.slice a n cap] 41)).alloc (Obj.cells #[.int .i64 0,.int .i64 0,.slice none 0 0] 41)).heap[w.heap.size+1]?=some (.cells #[.int .i64 0,.int .i64 0,.slice none 0 0] 41 (0,0))):=by
  have:=heap_alloc_new (w.alloc (Obj.cells #[.int .i64 sets,.int .i64 ways,.slice a n cap] 41)) (Obj.cells #[.int .i64 0,.int .i64 0,.slice none 0 0] 41);simp only [World.size_alloc] at this;exact this
 have l1:w.heap.size+1<((w.alloc (Obj.cells #[.int .i64 sets,.int .i64 ways,.slice a n cap] 41)).alloc (Obj.cells #[.int .i64 0,.int .i64 0,.slice none 0 0] 41)).heap.size:=by simp
 have HN:Hid (a=none→n=0∧cap=0):=hnil;have HSp:Hid (∀q,a=some q→q.spot=none):=hsp;clear hr hnil hsp HT;go_enter Tryz.func124,Tryz.ntmps124;go_wp2_with fail;generalize ((w.alloc (Obj.cells #[.int .i64 sets,.int .i64 ways,.slice a n cap] 41)).alloc (Obj.cells #[.int .i64 0,.int .i64 0,.slice none 0 0] 41))=v1 at n1 HR1 H1 H2 l1 ⊢;obtain ⟨⟨c0,c1,c2⟩,_,_,_⟩:=ao H1.out;obtain ⟨⟨d0,d1,d2⟩,e0,e1,e2⟩:=ao H2.out;have ne1:v1.heap.size≠w.heap.size:=by omega
 have ne2:w.heap.size≠v1.heap.size:=by omega
 have ne3:v1.heap.size≠w.heap.size+1:=by omega
 have ne4:w.heap.size+1≠v1.heap.size:=by omega
 have n2:Below v1.heap.size v1 (v1.alloc (Obj.cells #[] 83)).drew:=((Below.refl v1.heap.size v1).alloc (Nat.le_refl _) (Obj.cells #[] 83)).drew;go_region_held3 (fun w'=>w'.cell? ⟨w.heap.size,0,none⟩=some (.int .i64 sets)∧w'.cell? ⟨w.heap.size,1,none⟩=some (.int .i64 ways)∧w'.cell? ⟨w.heap.size,2,none⟩=some (.slice a n cap)) (go_keep)
  (first
   | (refine jT _ (by rfl) (.tmp 7) (.tmp 9) 39 (by rfl) 83 Tryz.underlying39 (.agg #[.bool false,.int .i64 0,.int .u64 0,.int .u64 0,.bool false,.int .u64 0]) 6 48 Tryz.infoEnt (by rfl) (by decide) v1.heap.size v1.heap.size 0 0 [] (by rfl) (OwnC.new 83 6 v1.drew [] 0 (by rfl) (by decide)) a n cap (aG es) (by rfl) HN.out HSp.out (RowC.keep HR1.out n2) (jJ es) (by omega) (by omega) v1.heap.size v1 n2 (Nat.le_refl _) ?_;intro g3 c3 v3 o3 n3;have k1:=ao (ab H1.out n3 (by omega));have k2:=ao (ab H2.out n3 l1);obtain ⟨⟨q0,q1,q2⟩,_,_,_⟩:=k1;obtain ⟨⟨j0,j1,j2⟩,i0,i1,i2⟩:=k2;have l3:=n3.size;have O3:Hid (OwnC 83 6 v3 v1.heap.size g3 (0+n) c3 ([]++aG es)):=o3;clear o3))
 go_wp2_with fail;have O4:v3.ownsRow v1.heap.size 83 6 (.slice (some ⟨g3,0,none⟩) n c3) n (aG es):=by
  have:=O3.out;rw [Nat.zero_add,List.nil_append] at this;exact this
 refine bodyPost_ret (v:=.agg #[.int .i64 sets,.int .i64 ways,.slice (some ⟨g3,0,none⟩) n c3]) (by simp [results,Tryz.results124,go_sem,j0,j1,j2]) rfl ⟨⟨_,rfl,g3,c3,by rw [hn],?_⟩,du (Below.step n1 n3 (Nat.le_refl _)) (by omega) _ _ _⟩;rw [hn];exact aX (cK O4 (gb3 v3 (w.heap.size+1) _ _ _) l1) (by omega)
theorem TlbOwn.row {base:Nat} {w:World} {v:Value} {t:TlbM} (h:TlbOwn base w v t):∃g cap,v=.agg #[.int .i64 t.sets,.int .i64 t.ways,.slice (some ⟨g,0,none⟩) t.es.length cap]∧RowC w (some ⟨g,0,none⟩) t.es.length 6 (aG t.es)∧base≤g∧g<w.heap.size:=by
 obtain ⟨g,cap,rfl,ho⟩:=h;have:=bV ho;exact ⟨g,cap,rfl,fH ho,this.2.1,this.2.2⟩
theorem TlbOwn.keep {base:Nat} {w w':World} {v:Value} {t:TlbM} (h:TlbOwn base w v t) (hb:Below w.heap.size w w'):TlbOwn base w' v t:=by
 obtain ⟨g,cap,rfl,ho⟩:=h;exact ⟨g,cap,rfl,ak ho hb⟩
def dA (t:TlbM):Prop:=
 (∀e∈t.es,da e)∧(-9223372036854775808≤t.sets∧t.sets≤9223372036854775807)∧(-9223372036854775808≤t.ways∧t.ways≤9223372036854775807)∧t.es.length≤1048576
theorem TlbAt.ok {w:World} {v:Value} {t:TlbM} (h:TlbAt w v t):dA t:=by
 obtain ⟨a,cap,_,_,h1,h2,h3,h4,_⟩:=h;exact ⟨h1,h2,h3,h4⟩
theorem TlbOwn.at {base:Nat} {w:World} {v:Value} {t:TlbM} (h:TlbOwn base w v t) (hk:dA t):TlbAt w v t:=by
 obtain ⟨g,cap,rfl,ho⟩:=h;have hr:=fH ho;rcases ho.2 with ⟨h2,_⟩ | ⟨g',cap',cur,h2,hb,hg,hc1,hc2,_⟩
 ·cases h2
 ·cases h2;exact ⟨some ⟨g,0,none⟩,cap,rfl,hr,hk.1,hk.2.1,hk.2.2.1,hk.2.2.2,hc1,by unfold maxLen at hc2;omega,(by intro h;cases h),(by intro q hq;cases hq;rfl)⟩
end Go.Proofs.YthekickjjaleaaaGreat

namespace Go.Proofs.YthekickjjaleaaaGreat
set_option linter.unusedVariables false
theorem nm (level va satp pte:Int) (hl:0≤level∧level≤2) (hp:0≤pte∧pte≤18446744073709551615):da (eF level va satp pte):=by
 have ht:=r6 va level (by omega);refine ⟨⟨by simp only [eF];omega,by simp only [eF];omega⟩,⟨ht.1,?_⟩,?_,hp⟩
 ·simp only [eF];omega
 ·simp only [eF,aU];omega
theorem lW {t:TlbM} {e:EntM} (pick:Int) (ht:dA t) (he:da e):dA (cE t e pick):=by
 obtain ⟨l1,l2,l3⟩:=fh t e pick;obtain ⟨h1,h2,h3,h4⟩:=ht;refine ⟨?_,by rw [l2];exact h2,by rw [l3];exact h3,by rw [l1];exact h4⟩;unfold cE;split
 ·intro x hx;simp only at hx;rcases List.mem_or_eq_of_mem_set hx with hx | rfl
  ·exact h1 x hx
  ·exact he
 ·exact h1
theorem qG (va satp pick:Int):∀(rs:List eh) (p:TlbM),dA p→(∀x∈rs,(0≤x.1∧x.1≤2)∧0≤x.2.2∧x.2.2≤18446744073709551615)→dA (dU va satp pick rs p)
 | [],p,h,_=>h
 | r::rs,p,h,hx=>by
  rw [dU];refine qG va satp pick rs _ ?_ fun x hx'=>hx x (List.mem_cons_of_mem _ hx');have hr:=hx r (List.mem_cons_self ..);split
  ·exact lW pick h (nm _ _ _ _ hr.1 hr.2)
  ·exact h
theorem uj (va satp pick:Int) (rs:List eh) (p:TlbM) (j:Nat) (x:eh) (hx:rs[j]?=some x):
 dU va satp pick (rs.take (j+1)) p=if bC x.2.2 x.1=1 then cE (dU va satp pick (rs.take j) p) (eF x.1 va satp x.2.2) pick else dU va satp pick (rs.take j) p:=by
 have:rs.take (j+1)=rs.take j++[x]:=by
  rw [List.take_add_one,hx];rfl
 rw [this,mG];rfl
end Go.Proofs.YthekickjjaleaaaGreat
