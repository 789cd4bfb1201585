import Derived.Test.YtaoaifmkhbgaiaaGreatPk06
import Derived.Test.YtaoaifmkhbgaiaaGreatPk05
import Derived.Test.YtaoaifmkhbgaiaaGreatPk04
namespace Go.Proofs.YtaoaifmkhbgaiaaGreat
open Go.RowKit
set_option linter.unusedVariables false
attribute [local go_sem ↓] Go.wp_at_zero Go.wp_at_succ
def fC (va asid l:Int) (x:EntM):Bool:=x.level == l && fz x va asid
def dk (va asid l:Int):Nat→List EntM→Option (Nat × EntM)
 | _,[]=>none
 | i,e::r=>if fC va asid l e=true then some (i,e) else dk va asid l (i+1) r
def fF (l:Int):Option (Nat × EntM)→Option (Bool × Int × Int × Int)
 | none=>none
 | some (i,e)=>some (true,(i:Int),l,e.pte)
def aO (t:TlbM) (va asid:Int):Bool × Int × Int × Int:=
 if cY t=false then (false,0,0,0)
 else ((fF 0 (dk va asid 0 0 t.es)).or ((fF 1 (dk va asid 1 0 t.es)).or (fF 2 (dk va asid 2 0 t.es)))).getD (false,0,0,0)
theorem ie (va asid l:Int):∀(es:List EntM) (i:Nat),(∀(j:Nat) x,es[j]?=some x→fC va asid l x=false)→dk va asid l i es=none
 | [],i,h=>rfl
 | e::r,i,h=>by
  rw [dk,if_neg (by rw [h 0 e rfl];simp)];exact ie va asid l r (i+1) (fun j x hx=>h (j+1) x (by simpa using hx))
theorem kl (va asid l:Int):∀(es:List EntM) (i k:Nat) (x:EntM),es[k]?=some x→fC va asid l x=true→(∀j y,j<k→es[j]?=some y→fC va asid l y=false)→dk va asid l i es=some (i+k,x)
 | e::r,i,0,x,hx,hh,h=>by
  simp at hx;subst hx;rw [dk,if_pos hh];rfl
 | e::r,i,k+1,x,hx,hh,h=>by
  rw [dk,if_neg (by rw [h 0 e (by omega) rfl];simp),kl va asid l r (i+1) k x (by simpa using hx) hh (fun j y hj hy=>h (j+1) y (by omega) (by simpa using hy))];congr 2;omega
theorem mp (t:TlbM) (p:Bool):∀(es:List EntM) (i:Nat),fA t p i es=true→∀j x,es[j]?=some x→cx t p (i+j) x=true
 | e::r,i,h,0,x,hx=>by
  simp at hx;subst hx;simp only [fA,Bool.and_eq_true] at h;exact h.1
 | e::r,i,h,j+1,x,hx=>by
  simp only [fA,Bool.and_eq_true] at h;have:=mp t p r (i+1) h.2 j x (by simpa using hx);rw [show i+(j+1)=i+1+j by omega];exact this
theorem qm {t:TlbM} {p:Bool} {i:Nat} {x:EntM} (h:cx t p i x=true) (hv:x.valid=true):0≤x.level∧x.level≤2:=by
 simp only [cx,Bool.or_eq_true,Bool.and_eq_true] at h;rcases h with h | h
 ·rw [hv] at h;simp at h
 ·have:=h.1;simp only [aS,Bool.and_eq_true,decide_eq_true_eq] at this;exact ⟨this.1.1.1.1.1.2,this.1.1.1.1.2⟩
theorem dX {t:TlbM} (h:cY t=true) (j:Nat) (x:EntM) (hx:t.es[j]?=some x) (hv:x.valid=true):0≤x.level∧x.level≤2:=by
 simp only [cY,aG,Bool.or_eq_true,Bool.and_eq_true] at h;rcases h with h | h
 ·exact qm (mp t true t.es 0 h.2 j x hx) hv
 ·exact qm (mp t false t.es 0 h.2 j x hx) hv
theorem t6 (t:TlbM) (va asid:Int) (l k:Nat) (x:EntM) (he:cY t=true) (hl:l≤2) (hp:∀l':Nat,l'<l→dk va asid l' 0 t.es=none) (hf:dk va asid l 0 t.es=some (k,x)):
 aO t va asid=(true,(k:Int),(l:Int),x.pte):=by
 unfold aO;rw [if_neg (by rw [he];simp)];rcases (show l=0∨l=1∨l=2 by omega) with rfl | rfl | rfl
 ·have hf':dk va asid 0 0 t.es=some (k,x):=hf;rw [hf'];rfl
 ·have h0:dk va asid 0 0 t.es=none:=hp 0 (by omega);have hf':dk va asid 1 0 t.es=some (k,x):=hf;rw [h0,hf'];rfl
 ·have h0:dk va asid 0 0 t.es=none:=hp 0 (by omega);have h1:dk va asid 1 0 t.es=none:=hp 1 (by omega);have hf':dk va asid 2 0 t.es=some (k,x):=hf;rw [h0,h1,hf'];rfl
theorem pH (t:TlbM) (va asid:Int) (he:cY t=true) (hp:∀l':Nat,l'<3→dk va asid l' 0 t.es=none):aO t va asid=(false,0,0,0):=by
 have h0:dk va asid 0 0 t.es=none:=hp 0 (by omega);have h1:dk va asid 1 0 t.es=none:=hp 1 (by omega);have h2:dk va asid 2 0 t.es=none:=hp 2 (by omega);unfold aO;rw [if_neg (by rw [he];simp),h0,h1,h2];rfl
set_option maxHeartbeats 6400000 in
theorem eX (v:Value) (t:TlbM) (va asid:Int) (w:World) (h:TlbAt w v t) (hv0:0≤va) (hv1:va≤18446744073709551615):
 Calls Tryz.prog 23 #[v,.int .u64 va,.int .u64 asid] w fun e w'=>
  e=.returned (.agg #[.bool (aO t va asid).1,.int .i64 (aO t va asid).2.1,.int .i64 (aO t va asid).2.2.1,.int .u64 (aO t va asid).2.2.2])∧Below w.heap.size w w':=by
 have HT:Hid (TlbAt w v t):=h;obtain ⟨a,cap,rfl,hr,he,hs,hw,hl,hlc,hcm,hnil,hsp⟩:=h;obtain ⟨⟨x1,x2,x3,x4⟩,hX⟩:∃X,aO t va asid=X:=⟨_,rfl⟩;rw [hX];simp only;have HX:Hid (aO t va asid=(x1,x2,x3,x4)):=hX;obtain ⟨eb,heb⟩:∃eb,cY t=eb:=⟨_,rfl⟩;have HEb:Hid (cY t=eb):=heb;obtain ⟨n,hn⟩:∃n,t.es.length=n:=⟨_,rfl⟩;have HN:Hid (t.es.length=n):=hn;rw [hn] at hr hl hlc hnil ⊢;have HR:Hid (RowC w a n 6 (aL t.es)):=hr;have HE:Hid (∀e∈t.es,dq e):=he;have n1:=((Below.refl w.heap.size w).alloc (Nat.le_refl _) (Obj.cells #[.int .i64 t.sets,.int .i64 t.ways,.slice a n cap] 28)).alloc (by simp) (Obj.cells #[.bool false,.int .i64 0,.int .i64 0,.int .u64 0] 57);have H1:Hid (((w.alloc (Obj.cells #[.int .i64 t.sets,.int .i64 t.ways,.slice a n cap] 28)).alloc (Obj.cells #[.bool false,.int .i64 0,.int .i64 0,.int .u64 0] 57)).heap[w.heap.size+1]?=some (.cells #[.bool false,.int .i64 0,.int .i64 0,.int .u64 0] 57 (0,0))):=by
  have:=heap_alloc_new (w.alloc (Obj.cells #[.int .i64 t.sets,.int .i64 t.ways,.slice a n cap] 28)) (Obj.cells #[.bool false,.int .i64 0,.int .i64 0,.int .u64 0] 57);simp only [World.size_alloc] at this;exact this
 have H2:Hid (((w.alloc (Obj.cells #[.int .i64 t.sets,.int .i64 t.ways,.slice a n cap] 28)).alloc (Obj.cells #[.bool false,.int .i64 0,.int .i64 0,.int .u64 0] 57)).cell? ⟨w.heap.size,2,none⟩=some (.slice a n cap)):=by
  show _=_;simp
 have l1:w.heap.size+1<((w.alloc (Obj.cells #[.int .i64 t.sets,.int .i64 t.ways,.slice a n cap] 28)).alloc (Obj.cells #[.bool false,.int .i64 0,.int .i64 0,.int .u64 0] 57)).heap.size:=by simp
 clear hX heb hn hr he hs hw hnil hsp;go_enter Tryz.func23,Tryz.ntmps23;go_wp2_with fail;generalize (w.alloc (Obj.cells #[.int .i64 t.sets,.int .i64 t.ways,.slice a n cap] 28)).alloc (Obj.cells #[.bool false,.int .i64 0,.int .i64 0,.int .u64 0] 57)=v1 at n1 H1 H2 l1 ⊢;have HTn:Hid (TlbAt w (.agg #[.int .i64 t.sets,.int .i64 t.ways,.slice a n cap]) t):=by have:=HT.out;rw [HN.out] at this;exact this
 refine (oK _ t v1 (HTn.out.keep n1)).mono ?_;rw [HEb.out];rintro e v2 ⟨rfl,n2⟩;have n12:=Below.step n1 n2 (Nat.le_refl _);have K1:Hid (v2.heap[w.heap.size+1]?=some (.cells #[.bool false,.int .i64 0,.int .i64 0,.int .u64 0] 57 (0,0))):=ab H1.out n2 l1;have K2:v2.cell? ⟨w.heap.size,2,none⟩=some (.slice a n cap):=Below.cell2 n2 H2.out (by omega);have l2:w.heap.size+1<v2.heap.size:=Nat.lt_of_lt_of_le l1 n2.size;clear n1 n2 H1 H2 l1;cases eb
 ·obtain ⟨⟨d0,d1,d2,d3⟩,e0,e1,e2,e3⟩:=aw K1.out;have hz:(x1,x2,x3,x4)=(false,0,0,0):=by rw [←HX.out];unfold aO;rw [if_pos HEb.out]
  cases hz;go_wp2_with fail;exact bodyPost_ret (v:=.agg #[.bool false,.int .i64 0,.int .i64 0,.int .u64 0]) (by simp [results,Tryz.results23,go_sem,d0,d1,d2,d3]) rfl ⟨rfl,pN n12 (by omega) _ _ _ _⟩
 ·go_wp2_with fail;go_loopw [7] (fun lev wr=>∃l:Nat,l≤3∧lev=.int .i64 l∧(∀l':Nat,l'<l→dk va asid l' 0 t.es=none)∧Below v2.heap.size v2 wr) (fun lev _=>3-(intOf lev).toNat)
  case atStart=>exact ⟨0,by omega,rfl,fun l' h=>absurd h (by omega),Below.refl _ _⟩
  case round=>
   obtain ⟨l,hl3,rfl,hprev,hb⟩:=hrel;have HPv:Hid (∀l':Nat,l'<l→dk va asid l' 0 t.es=none):=hprev;clear hprev;by_cases hlt:l≤2
   ·have hlt':decide ((l:Int)≤2)=true:=by simp;omega
    go_wp2_with fail;go_loopw [8] (fun i wq=>∃k:Nat,k≤n∧i=.int .i64 k∧(∀j x,j<k→t.es[j]?=some x→fC va asid l x=false)∧Below v2.heap.size v2 wq) (fun i _=>n-(intOf i).toNat)
    case atStart=>exact ⟨0,Nat.zero_le _,rfl,fun j x hj=>absurd hj (by omega),hb⟩
    case round=>
     obtain ⟨k,hk,rfl,hall,hbq⟩:=hrel;have HA:Hid (∀j x,j<k→t.es[j]?=some x→fC va asid l x=false):=hall;clear hall hb;have d12:=Below.cell2 hbq K2 (by omega);have l3:w.heap.size+1<wr.heap.size:=Nat.lt_of_lt_of_le l2 hbq.size;have n1q:=Below.step n12 hbq (Nat.le_refl _);by_cases hkn:k<n
     ·have hx:∃x:EntM,t.es[k]?=some x:=⟨_,List.getElem?_eq_getElem (by have:=HN.out;omega)⟩;obtain ⟨⟨v,lv,tg,asd,gl,pt⟩,hx⟩:=hx;have hok:dq ⟨v,lv,tg,asd,gl,pt⟩:=HE.out _ (List.mem_of_getElem? hx);have hlv:=dX HEb.out k _ hx;obtain ⟨b,off,rfl⟩:∃b off,a=some ⟨b,off,none⟩:=by
       rcases HR.out.2 with h0 | ⟨b,off,rfl,_,_⟩
       ·omega
       ·exact ⟨b,off,rfl⟩
      have HRr:=RowC.keep HR.out n1q;have g0:wr.cell? ⟨b,off+k*6,none⟩=some (.bool v):=dG HRr HN.out k _ hx 0 _ (by omega) rfl;have g1:wr.cell? ⟨b,off+k*6+1,none⟩=some (.int .i64 lv):=dG HRr HN.out k _ hx 1 _ (by omega) rfl;have g2:wr.cell? ⟨b,off+k*6+2,none⟩=some (.int .u64 tg):=dG HRr HN.out k _ hx 2 _ (by omega) rfl;have g3:wr.cell? ⟨b,off+k*6+3,none⟩=some (.int .u64 asd):=dG HRr HN.out k _ hx 3 _ (by omega) rfl;have g4:wr.cell? ⟨b,off+k*6+4,none⟩=some (.bool gl):=dG HRr HN.out k _ hx 4 _ (by omega) rfl;have g5:wr.cell? ⟨b,off+k*6+5,none⟩=some (.int .u64 pt):=dG HRr HN.out k _ hx 5 _ (by omega) rfl;have HXk:Hid (t.es[k]?=some ⟨v,lv,tg,asd,gl,pt⟩):=hx;have HLv:Hid (v=true→0≤lv∧lv≤2):=hlv;have HPt:Hid (fC va asid l ⟨v,lv,tg,asd,gl,pt⟩=false→∀j x,j<k+1→t.es[j]?=some x→fC va asid l x=false):=fun h j x hj hx'=>by
       by_cases e:j=k
       ·subst e;rw [hx] at hx';cases hx';exact h
       ·exact HA.out j x (by omega) hx'
      clear hx HRr hlv;obtain ⟨fv,hfv⟩:∃fv,fz ⟨v,lv,tg,asd,gl,pt⟩ va asid=fv:=⟨_,rfl⟩;have HF:Hid (fz ⟨v,lv,tg,asd,gl,pt⟩ va asid=fv):=hfv;clear hfv;cases hq:(lv == (l:Int))
      ·go_wp2_with fail;go_roundw
       case rel=>exact ⟨k+1,by omega,by go_num,HPt.out (by simp [fC,hq]),hbq⟩
       case measure=>simp [intOf];omega
      ·have hq':lv=(l:Int):=by simpa using hq
       subst hq';clear hq;go_wp2_with fail;refine (wX ⟨v,(l:Int),tg,asd,gl,pt⟩ va asid wr hok HLv.out hv0 hv1).mono ?_;rw [HF.out];rintro e v5 ⟨rfl,n5⟩;have hb5:=Below.step hbq n5 (Nat.le_refl _);have n15:=Below.step n1q n5 (Nat.le_refl _);have p5:v5.cell? ⟨b,off+k*6+5,none⟩=some (.int .u64 pt):=Below.cell2 n5 g5 (by
        rcases HR.out.2 with h0 | ⟨b',off',e,hlt',_⟩
        ·omega
        ·cases e;exact Nat.lt_of_lt_of_le hlt' n1q.size)
       have p12:=Below.cell2 n5 d12 (by omega);obtain ⟨⟨d0,d1,d2,d3⟩,e0,e1,e2,e3⟩:=aw (ab K1.out hb5 l2);clear g0 g1 g2 g3 g4 g5 d12 n5;cases fv
       ·clear d0 d1 d2 d3 e0 e1 e2 e3 p5;go_wp2_with fail;go_roundw
        case rel=>exact ⟨k+1,by omega,by go_num,HPt.out (by simp [fC,HF.out]),hb5⟩
        case measure=>simp [intOf];omega
       ·have hh:fC va asid l ⟨v,(l:Int),tg,asd,gl,pt⟩=true:=by simp [fC,HF.out]
        have hfind:=kl va asid l t.es 0 k _ HXk.out hh HA.out;have HV:Hid ((x1,x2,x3,x4)=(true,(k:Int),(l:Int),pt)):=by
         show _=_;rw [←HX.out];exact t6 t va asid l k _ HEb.out hlt HPv.out (by rw [hfind,Nat.zero_add])
        clear hh hfind;have hV:=HV.out;cases hV;go_wp2_with fail;exact bodyPost_ret (v:=.agg #[.bool true,.int .i64 k,.int .i64 l,.int .u64 x4]) (by simp [results,Tryz.results23,go_sem,d0,d1,d2,d3]) rfl ⟨rfl,pN n15 (by omega) _ _ _ _⟩
     ·have hkn':k=n:=by omega
      have HF:Hid (dk va asid l 0 t.es=none):=ie va asid l t.es 0 (fun j x hx=>HA.out j x (by have h1:=(List.getElem?_eq_some_iff.1 hx).1;have h2:=HN.out;omega) hx);go_wp2_with fail;go_roundw
      case rel=>exact ⟨l+1,by omega,by go_num,fun l' h=>by
       by_cases e:l'=l
       ·subst e;exact HF.out
       ·exact HPv.out l' (by omega),hbq⟩
      case measure=>simp [intOf];omega
   ·obtain ⟨⟨d0,d1,d2,d3⟩,e0,e1,e2,e3⟩:=aw (ab K1.out hb l2);have n14:=Below.step n12 hb (Nat.le_refl _);have hz:(x1,x2,x3,x4)=(false,0,0,0):=by
     rw [←HX.out];exact pH t va asid HEb.out (fun l' h=>HPv.out l' (by omega))
    cases hz;clear K2;go_wp2_with fail;exact bodyPost_ret (v:=.agg #[.bool false,.int .i64 0,.int .i64 0,.int .u64 0]) (by simp [results,Tryz.results23,go_sem,d0,d1,d2,d3]) rfl ⟨rfl,pN n14 (by omega) _ _ _ _⟩
end Go.Proofs.YtaoaifmkhbgaiaaGreat

namespace Go.Proofs.YtaoaifmkhbgaiaaGreat
set_option linter.unusedVariables false
structure FenceM where
 hasVa:Bool
 va:Int
 hasAsid:Bool
 asid:Int
def go (f:FenceM) (level tag asid:Int) (glob:Bool):Bool:=
 !(f.hasVa && (!bW f.va || tag != dt f.va level)) && (!f.hasAsid || (!glob && asid == f.asid))
def cU (f:FenceM) (e:EntM):EntM:=if (e.valid && go f e.level e.tag e.asid e.glob)=true then cL else e
def lY (es:List EntM) (first:Nat):Nat→Nat→Option Nat
 | _,0=>none
 | w,left+1=>if (es[first+w]?.getD cL).valid=false then some w else lY es first (w+1) left
end Go.Proofs.YtaoaifmkhbgaiaaGreat

namespace Go.Proofs.YtaoaifmkhbgaiaaGreat
set_option linter.unusedVariables false
structure KM where
 i:TlbM
 d:TlbM
 p:TlbM
def ur:TlbM:=⟨0,0,[]⟩
def k0M:KM:=⟨ur,ur,ur⟩
def aV (k:KM):Bool:=aG k.i false && aG k.d false && aG k.p true
def et (level va satp pte:Int):EntM:=⟨true,level,dt va level,ay satp,bK pte 32,pte⟩
def ct (t:TlbM) (f:FenceM):TlbM:=if cY t=true then ⟨t.sets,t.ways,t.es.map (cU f)⟩ else t
def hZ (t:TlbM) (e:EntM):Bool:=(aG t true && aS e true) || (aG t false && aS e false)
def dL (t:TlbM) (e:EntM):Nat:=(e.tag%t.sets*t.ways).toNat
def fU (t:TlbM) (e:EntM) (pick:Int):Nat:=(lY t.es (dL t e) 0 t.ways.toNat).getD (pick%t.ways).toNat
def cz (t:TlbM) (e:EntM) (pick:Int):TlbM:=
 if hZ t e=true∧0≤pick∧pick≤255 then ⟨t.sets,t.ways,t.es.set (dL t e+fU t e pick) e⟩ else t
def cE (va satp pick:Int):List ef→TlbM→TlbM
 | [],p=>p
 | r::rs,p=>cE va satp pick rs (if bC r.2.2 r.1=1 then cz p (et r.1 va satp r.2.2) pick else p)
def aW (zs:List Int) (satp va:Int) (up:Bool × Int × Int × Int):Int × Int × Int × List ef:=
 if up.1=true then cN zs va (up.2.2.1-1).toNat (dK up.2.2.2) else bV zs satp va
def p6 (k:KM) (kind:Int) (t:TlbM):KM:=if kind=0 then ⟨t,k.d,k.p⟩ else ⟨k.i,t,k.p⟩
def cM (k:KM) (kind:Int):TlbM:=if kind=0 then k.i else k.d
def ak (zs:List Int) (mode:Int) (sum mxr:Bool) (satp:Int) (k:KM) (kind va pick:Int):(Int × Int) × KM:=
 if aV k=false∨kind<0∨2<kind∨mode<0∨2<mode∨pick<0∨255<pick then ((63,0),k0M)
 else if onM mode satp=false then ((0,va),k)
 else if bW va=false then ((eD kind,0),k)
 else if (aO (cM k kind) va (ay satp)).1=true then (ey (aO (cM k kind) va (ay satp)).2.2.2 (aO (cM k kind) va (ay satp)).2.2.1 mode sum mxr kind va,k)
 else
  let r:=aW zs satp va (aO k.p va (ay satp))
  let a:=ck r mode sum mxr kind va
  let k':KM:=⟨k.i,k.d,cE va satp pick r.2.2.2 k.p⟩
  (a,if a.1=0 then p6 k' kind (cz (cM k kind) (et r.2.1 va satp r.2.2.1) pick) else k')
theorem ft {t:TlbM} {p:Bool} (h:aG t p=true):(t.sets=1∨t.sets=2∨t.sets=4∨t.sets=8)∧1≤t.ways∧t.ways≤4∧(t.es.length:Int)=t.sets*t.ways:=by
 simp only [aG,Bool.and_eq_true,ip,decide_eq_true_eq] at h;exact h.1
theorem jT {t:TlbM} {p:Bool} (h:aG t p=true) (j:Nat) (x:EntM) (hx:t.es[j]?=some x):cx t p j x=true:=by
 simp only [aG,Bool.and_eq_true] at h;have:=mp t p t.es 0 h.2 j x hx;simpa using this
theorem r8 {t:TlbM} {p:Bool} (h:ip t=true) (hp:∀(j:Nat) x,t.es[j]?=some x→cx t p j x=true):aG t p=true:=by
 simp only [aG,Bool.and_eq_true];exact ⟨h,fS t p t.es 0 (fun j x hx=>by simpa using hp j x hx)⟩
theorem dO {t:TlbM} {p:Bool} (h:aG t p=true):cY t=true:=by
 cases p <;> simp [cY,h]
theorem vQ (es:List EntM) (first:Nat):∀(left w r:Nat),lY es first w left=some r→w≤r∧r<w+left
 | 0,w,r,h=>by simp [lY] at h
 | left+1,w,r,h=>by
  rw [lY] at h;split at h
  ·cases h;omega
  ·have:=vQ es first left (w+1) r h
   omega
theorem xV (t:TlbM) (e:EntM) (pick:Int) (hw:1≤t.ways) (hw':t.ways≤4):(fU t e pick:Int)<t.ways:=by
 unfold fU;cases h:lY t.es (dL t e) 0 t.ways.toNat with
 | none=>
  simp only [Option.getD_none];have h1:0≤pick%t.ways:=Int.emod_nonneg _ (by omega);have h2:pick%t.ways<t.ways:=Int.emod_lt_of_pos _ (by omega);omega
 | some r=>
  simp only [Option.getD_some];have:=vQ _ _ _ _ _ h;omega
theorem sa {t:TlbM} {e:EntM} (ht:0≤e.tag) (hs:t.sets=1∨t.sets=2∨t.sets=4∨t.sets=8) (hw:1≤t.ways):(dL t e:Int)=e.tag%t.sets*t.ways:=by
 unfold dL;have:0≤e.tag%t.sets:=Int.emod_nonneg _ (by omega);have:=Int.mul_nonneg this (by omega:0≤t.ways);omega
theorem zD {t:TlbM} {p:Bool} {e:EntM} {pick:Int} (hv:aG t p=true) (ht:0≤e.tag):dL t e+fU t e pick<t.es.length:=by
 obtain ⟨hs,hw,hw',hl⟩:=ft hv;have h1:=sa (e:=e) ht hs hw;have h2:=xV t e pick hw hw';have h3:e.tag%t.sets<t.sets:=Int.emod_lt_of_pos _ (by omega);have h4:0≤e.tag%t.sets:=Int.emod_nonneg _ (by omega);have h5:(e.tag%t.sets+1)*t.ways≤t.sets*t.ways:=Int.mul_le_mul_of_nonneg_right (by omega) (by omega);rw [Int.add_mul] at h5;omega
theorem Aq {t:TlbM} {p:Bool} {e:EntM} {pick:Int} (hv:aG t p=true) (ht:0≤e.tag):((dL t e+fU t e pick:Nat):Int)/t.ways=e.tag%t.sets:=by
 obtain ⟨hs,hw,hw',hl⟩:=ft hv;have h1:=sa (e:=e) ht hs hw;have h2:=xV t e pick hw hw';rw [show ((dL t e+fU t e pick:Nat):Int)=(fU t e pick:Int)+(e.tag%t.sets)*t.ways by omega,Int.add_mul_ediv_right _ _ (by omega)];rw [Int.ediv_eq_zero_of_lt (by omega) h2];omega
theorem yK {e:EntM} {p:Bool} (h:aS e p=true):bC e.pte e.level=iA p:=by
 simp only [aS,Bool.and_eq_true,beq_iff_eq] at h;exact h.2
theorem iM (t:TlbM) (e:EntM) (pick:Int) (p:Bool) (hv:aG t p=true) (hg:aS e p=true) (ht:0≤e.tag):aG (cz t e pick) p=true:=by
 unfold cz;split
 ·have hs:=ft hv;refine r8 ?_ ?_
  ·simp only [ip,decide_eq_true_eq,List.length_set];exact hs
  ·intro j x hx;simp only [List.getElem?_set] at hx;split at hx
   ·rename_i hj;split at hx
    ·cases hx;subst hj;simp only [cx,Bool.or_eq_true,Bool.and_eq_true,beq_iff_eq];exact .inr ⟨hg,(Aq (pick:=pick) hv ht).symm⟩
    ·cases hx
   ·exact jT hv j x hx
 ·exact hv
theorem gL (t:TlbM) (f:FenceM) (p:Bool) (hv:aG t p=true):aG (ct t f) p=true:=by
 unfold ct;rw [if_pos (dO hv)];have hs:=ft hv;refine r8 ?_ ?_
 ·simp only [ip,decide_eq_true_eq,List.length_map];exact hs
 ·intro j x hx;simp only [List.getElem?_map,Option.map_eq_some_iff] at hx;obtain ⟨y,hy,rfl⟩:=hx;have:=jT hv j y hy;unfold cU;split
  ·simp [cx,cL]
  ·exact this
theorem vR (t:TlbM) (va asid:Int) (h:∀x∈t.es,fz x va asid=false):aO t va asid=(false,0,0,0):=by
 by_cases he:cY t=true
 ·refine pH t va asid he (fun l hl=>ie va asid l t.es 0 (fun j x hx=>?_));simp [fC,h x (List.mem_of_getElem? hx)]
 ·unfold aO;rw [if_pos (by simpa using he)]
theorem yL (t:TlbM) (va asid:Int) (he:cY t=true) (h:(aO t va asid).1=false):∀x∈t.es,fz x va asid=false:=by
 intro x hx;cases hf:fz x va asid
 ·rfl
 ·exfalso;obtain ⟨j,hj⟩:=List.getElem?_of_mem hx;have hval:x.valid=true:=by
   simp only [fz,Bool.and_eq_true] at hf;exact hf.1.1
  have hl:=dX he j x hj hval;have hne:∀l:Int,x.level=l→dk va asid l 0 t.es≠none:=by
   intro l hxl hn;have:∀(es:List EntM) (i:Nat),dk va asid l i es=none→∀y∈es,fC va asid l y=false:=by
    intro es
    induction es with
    | nil=>intro i _ y hy;cases hy
    | cons z r ih=>
     intro i hn y hy;rw [dk] at hn;split at hn
     ·cases hn
     ·rename_i hz;rcases List.mem_cons.1 hy with rfl | hy
      ·simpa using hz
      ·exact ih (i+1) hn y hy
   have:=this t.es 0 hn x hx;simp [fC,hf,hxl] at this
  unfold aO at h;rw [if_neg (by rw [he];simp)] at h;rcases (show x.level=0∨x.level=1∨x.level=2 by omega) with hx0 | hx0 | hx0
  ·cases h0:dk va asid 0 0 t.es with
   | none=>exact hne 0 hx0 h0
   | some y=>simp [h0,fF] at h
  ·cases h0:dk va asid 0 0 t.es with
   | some y=>simp [h0,fF] at h
   | none=>
    cases h1:dk va asid 1 0 t.es with
    | none=>exact hne 1 hx0 h1
    | some y=>simp [h0,h1,fF] at h
  ·cases h0:dk va asid 0 0 t.es with
   | some y=>simp [h0,fF] at h
   | none=>
    cases h1:dk va asid 1 0 t.es with
    | some y=>simp [h0,h1,fF] at h
    | none=>
     cases h2:dk va asid 2 0 t.es with
     | none=>exact hne 2 hx0 h2
     | some y=>simp [h0,h1,h2,fF] at h
theorem xh (t:TlbM) (e:EntM) (pick:Int) (p:Bool) (va asid:Int) (hv:aG t p=true) (hg:aS e p=true) (ht:0≤e.tag) (hp:0≤pick∧pick≤255)
 (hn:(aO t va asid).1=false) (hf:fz e va asid=true):aO (cz t e pick) va asid=(true,((dL t e+fU t e pick:Nat):Int),e.level,e.pte):=by
 have hiv:=iM t e pick p hv hg ht;have hfi:hZ t e=true:=by
  simp only [hZ,Bool.or_eq_true,Bool.and_eq_true];cases p
  ·exact .inr ⟨hv,hg⟩
  ·exact .inl ⟨hv,hg⟩
 have hlt:=zD (pick:=pick) hv ht;have hins:cz t e pick=⟨t.sets,t.ways,t.es.set (dL t e+fU t e pick) e⟩:=by
  unfold cz;rw [if_pos ⟨hfi,hp.1,hp.2⟩]
 have hno:=yL t va asid (dO hv) hn;have hei:=dO hiv;rw [hins] at hei ⊢;have hlev:0≤e.level∧e.level≤2:=by
  simp only [aS,Bool.and_eq_true,decide_eq_true_eq] at hg;exact ⟨hg.1.1.1.1.1.2,hg.1.1.1.1.2⟩
 obtain ⟨l,hl⟩:=Int.eq_ofNat_of_zero_le hlev.1;have hother:∀(j:Nat) x,j≠dL t e+fU t e pick→(t.es.set (dL t e+fU t e pick) e)[j]?=some x→fz x va asid=false:=by
  intro j x hj hx;rw [List.getElem?_set_ne (Ne.symm hj)] at hx;exact hno x (List.mem_of_getElem? hx)
 rw [hl];refine t6 _ va asid l _ e hei (by omega) ?_ ?_
 ·intro l' hl';refine ie va asid l' _ 0 (fun j x hx=>?_);by_cases hj:j=dL t e+fU t e pick
  ·subst hj;rw [List.getElem?_set_self hlt] at hx;cases hx;simp only [fC,Bool.and_eq_false_iff,beq_eq_false_iff_ne];left;omega
  ·simp [fC,hother j x hj hx]
 ·have:=kl va asid l (t.es.set (dL t e+fU t e pick) e) 0 (dL t e+fU t e pick) e (List.getElem?_set_self hlt) (by simp [fC,hf,hl]) (fun j y hj hy=>by simp [fC,hother j y (by omega) hy]);simpa using this
end Go.Proofs.YtaoaifmkhbgaiaaGreat

namespace Go.Proofs.YtaoaifmkhbgaiaaGreat
set_option linter.unusedVariables false
structure HartM where
 mem:List Int
 regs:List Int
 pc:Int
 mode:Int
 sum:Bool
 mxr:Bool
 satp:Int
 tvec:Int
 epc:Int
 emode:Int
 cause:Int
 tval:Int
 k:KM
structure RunM where
 h:HartM
 cause:Int
 tval:Int
 looks:List (Int × Int)
 fenced:Bool
 fence:FenceM
def eT:FenceM:=⟨false,0,false,0⟩
def eM (satp:Int):Bool:=satp/1152921504606846976%16 == 0 || satp/1152921504606846976%16 == 8
def sd (n:Nat):Bool:=decide (n%64=0∧64≤n∧n≤4096)
def xW (h:HartM):Bool:=
 decide (h.regs.length=8) && (h.regs[0]?.getD 0 == 0) && decide (0≤h.mode∧h.mode≤2) && decide (0≤h.emode∧h.emode≤2) && eM h.satp && (h.tvec%4 == 0) && decide (0≤h.cause∧h.cause≤63)
def ut (h:HartM):Bool:=sd h.mem.length && xW h && aV h.k
def cV (plain:Bool) (pick:Int) (h:HartM) (kind va:Int):(Int × Int) × KM:=
 if plain=true then (eu h.mem h.mode h.sum h.mxr h.satp kind va,h.k) else ak h.mem h.mode h.sum h.mxr h.satp h.k kind va pick
def eN (h:HartM) (k:KM):HartM:=⟨h.mem,h.regs,h.pc,h.mode,h.sum,h.mxr,h.satp,h.tvec,h.epc,h.emode,h.cause,h.tval,k⟩
def pd (h:HartM) (mem:List Int):HartM:=⟨mem,h.regs,h.pc,h.mode,h.sum,h.mxr,h.satp,h.tvec,h.epc,h.emode,h.cause,h.tval,h.k⟩
def iD (h:HartM) (regs:List Int):HartM:=⟨h.mem,regs,h.pc,h.mode,h.sum,h.mxr,h.satp,h.tvec,h.epc,h.emode,h.cause,h.tval,h.k⟩
def gI (h:HartM) (pc:Int):HartM:=⟨h.mem,h.regs,pc,h.mode,h.sum,h.mxr,h.satp,h.tvec,h.epc,h.emode,h.cause,h.tval,h.k⟩
def cF (r:RunM) (h:HartM):RunM:=⟨h,r.cause,r.tval,r.looks,r.fenced,r.fence⟩
def dc (r:RunM) (cause tval:Int):RunM:=⟨r.h,cause,tval,r.looks,r.fenced,r.fence⟩
def dm (plain:Bool) (pick:Int) (r:RunM) (kind va:Int):RunM:=
 ⟨eN r.h (cV plain pick r.h kind va).2,r.cause,r.tval,r.looks++[(kind,va)],r.fenced,r.fence⟩
abbrev dH:=Int × Int × Int
def ji (va w:Int):List dH:=
 if 64-va%64<w then [(va,64-va%64,0),((va+(64-va%64))%18446744073709551616,w-(64-va%64),0)] else [(va,w,0)]
def bu (plain:Bool) (pick kind:Int):RunM→List dH→RunM × List dH
 | r,[]=>(r,[])
 | r,p::ps=>
  if (cV plain pick r.h kind p.1).1.1=0 then
   ((bu plain pick kind (dm plain pick r kind p.1) ps).1,(p.1,p.2.1,(cV plain pick r.h kind p.1).1.2)::(bu plain pick kind (dm plain pick r kind p.1) ps).2)
  else (dc (dm plain pick r kind p.1) (cV plain pick r.h kind p.1).1.1 p.1,p::ps)
def pe (mem:List Int):List dH→Option Int
 | []=>none
 | p::ps=>if jm mem.length p.2.2 p.2.1=true then pe mem ps else some p.1
def aY (plain:Bool) (pick:Int) (r:RunM) (kind va w:Int):RunM × List dH:=
 if (bu plain pick kind r (ji va w)).1.cause=0 then
  match pe (bu plain pick kind r (ji va w)).1.h.mem (bu plain pick kind r (ji va w)).2 with
  | none=>bu plain pick kind r (ji va w)
  | some v=>(dc (bu plain pick kind r (ji va w)).1 (cQ kind) v,(bu plain pick kind r (ji va w)).2)
 else bu plain pick kind r (ji va w)
def dP (mem:List Int):List dH→List Int
 | []=>[]
 | p::ps=>(mem.drop p.2.2.toNat).take p.2.1.toNat++dP mem ps
def lo (mem:List Int) (ps:List dH):Int:=num (dP mem ps)
def lZ:List Int→List dH→List Int→List Int
 | mem,[],_=>mem
 | mem,p::ps,b=>lZ (put mem p.2.2.toNat (b.take p.2.1.toNat)) ps (b.drop p.2.1.toNat)
def gJ (h:HartM) (a:Int):Int:=h.regs[a.toNat]?.getD 0
def cZ (r:RunM) (a x:Int):RunM:=cF r (iD r.h (if 0<a then r.h.regs.set a.toNat x else r.h.regs))
def qH (s:Int):Int:=if 128≤s then s-256 else s
def jU (n:Int):Int:=2^n.toNat
def de (op c mode:Int):Bool:=
 decide (9≤op∧op≤11∧mode=0) || decide ((op=12∨op=13)∧mode≠2) || decide (op=13∧2<c)
def ph (h:HartM) (a b:Int):FenceM:=⟨decide (a≠0),gJ h a,decide (b≠0),gJ h b%65536⟩
def eH (k:KM) (f:FenceM):KM:=⟨ct k.i f,ct k.d f,ct k.p f⟩
def zF (plain:Bool) (pick:Int) (r:RunM) (ea w a:Int):RunM:=
 if (aY plain pick r 1 ea w).1.cause=0 then cZ (aY plain pick r 1 ea w).1 a (lo (aY plain pick r 1 ea w).1.h.mem (aY plain pick r 1 ea w).2) else (aY plain pick r 1 ea w).1
def eh (t:RunM × List dH) (b:List Int):RunM:=cF t.1 (pd t.1.h (lZ t.1.h.mem t.2 b))
def xk (plain:Bool) (pick:Int) (r:RunM) (ea w x:Int):RunM:=
 if (aY plain pick r 2 ea w).1.cause=0 then eh (aY plain pick r 2 ea w) (eA x w.toNat) else (aY plain pick r 2 ea w).1
def AU (plain:Bool) (pick:Int) (r:RunM) (ea a x:Int):RunM:=
 if (aY plain pick r 2 ea 8).1.cause=0 then cZ (eh (aY plain pick r 2 ea 8) (eA ((lo (aY plain pick r 2 ea 8).1.h.mem (aY plain pick r 2 ea 8).2+x)%18446744073709551616) 8)) a (lo (aY plain pick r 2 ea 8).1.h.mem (aY plain pick r 2 ea 8).2) else (aY plain pick r 2 ea 8).1
def eaM (h:HartM) (b s:Int):Int:=(gJ h b+qH s)%18446744073709551616
def doM (plain:Bool) (pick:Int) (r:RunM) (pc op a b c s word:Int):RunM:=
 if de op c r.h.mode=true then dc r 2 word
 else if op=1 then cZ r a (qH s%18446744073709551616)
 else if op=2 then cZ r a ((gJ r.h b+gJ r.h c)%18446744073709551616)
 else if op=3 then cZ r a (eaM r.h b s)
 else if op=4 then cZ r a (gJ r.h b*jU (s%64)%18446744073709551616)
 else if op=5 then zF plain pick r (eaM r.h b s) (jU (c%4)) a
 else if op=6 then xk plain pick r (eaM r.h b s) (jU (c%4)) (gJ r.h a)
 else if op=7 then AU plain pick r (eaM r.h b s) a (gJ r.h c)
 else if op=8 then (if gJ r.h a=gJ r.h b then r else cF r (gI r.h ((pc+4*qH s)%18446744073709551616)))
 else if op=9 then (if eM (gJ r.h a)=true then cF r ⟨r.h.mem,r.h.regs,r.h.pc,r.h.mode,r.h.sum,r.h.mxr,gJ r.h a,r.h.tvec,r.h.epc,r.h.emode,r.h.cause,r.h.tval,r.h.k⟩ else r)
 else if op=10 then cF r ⟨r.h.mem,r.h.regs,r.h.pc,r.h.mode,bK (gJ r.h a) 1,bK (gJ r.h a) 2,r.h.satp,r.h.tvec,r.h.epc,r.h.emode,r.h.cause,r.h.tval,r.h.k⟩
 else if op=11 then ⟨if plain=true then r.h else eN r.h (eH r.h.k (ph r.h a b)),r.cause,r.tval,r.looks,true,ph r.h a b⟩
 else if op=12 then cF r ⟨r.h.mem,r.h.regs,(r.h.epc+4*qH s)%18446744073709551616,r.h.emode,r.h.sum,r.h.mxr,r.h.satp,r.h.tvec,r.h.epc,r.h.emode,r.h.cause,r.h.tval,r.h.k⟩
 else if op=13 then cF r ⟨r.h.mem,r.h.regs,r.h.pc,r.h.mode,r.h.sum,r.h.mxr,r.h.satp,r.h.tvec,gJ r.h a,c,r.h.cause,r.h.tval,r.h.k⟩
 else if op=14 then dc r (8+r.h.mode) 0
 else dc r 2 word
def fI (plain:Bool) (pick:Int) (r:RunM) (op p q s word:Int):RunM:=
 doM plain pick (cF r (gI r.h ((r.h.pc+4)%18446744073709551616))) r.h.pc op (p%8) (p/8%8) (q%8) s word
def bY (t:TlbM) (n:Int):TlbM:=⟨t.sets,t.ways,t.es.set (n%t.es.length).toNat cL⟩
def nI (plain:Bool) (pick:Int) (k:KM):KM:=
 if 128≤pick∧plain=false then ⟨bY k.i (pick-128),bY k.d (pick-128),bY k.p (pick-128)⟩ else k
def zG (plain:Bool) (pick:Int) (h:HartM):Int:=rdV h.mem (cV plain pick h 0 h.pc).1.2 4
def sM (plain:Bool) (pick:Int) (r:RunM) (x:Int):RunM:=fI plain pick r (x%256) (x/256%256) (x/65536%256) (x/16777216) x
def jV (plain:Bool) (pick:Int) (r:RunM):RunM:=
 if r.h.pc%4=0 then
  if (cV plain pick r.h 0 r.h.pc).1.1=0 then
   if dM r.h.mem.length (cV plain pick r.h 0 r.h.pc).1.2 4=true then sM plain pick (dm plain pick r 0 r.h.pc) (zG plain pick r.h)
   else dc (dm plain pick r 0 r.h.pc) 1 r.h.pc
  else dc (dm plain pick r 0 r.h.pc) (cV plain pick r.h 0 r.h.pc).1.1 r.h.pc
 else dc r 20 r.h.pc
def dZ (plain:Bool) (pick:Int) (h:HartM):RunM:=⟨eN h (nI plain pick h.k),0,0,[],false,eT⟩
def ev (h:HartM) (r:RunM):HartM:=⟨h.mem,h.regs,h.tvec,2,h.sum,h.mxr,h.satp,h.tvec,h.pc,h.mode,r.cause,r.tval,r.h.k⟩
def zH (h:HartM) (r:RunM):RunM:=if r.cause=0 then r else cF r (ev h r)
def pj (plain:Bool) (pick:Int) (h:HartM):RunM:=zH h (jV plain pick (dZ plain pick h))
def atM (b:List Int) (i:Nat):Int:=b[i]?.getD 0
def cW (b:List Int) (i:Nat):Int:=num ((List.range 8).map fun k=>atM b (i+k))
def aC (y:Int):TlbM:=⟨2^(y%4).toNat,1+y/4%4,List.replicate (2^(y%4).toNat*(1+y/4%4).toNat) cL⟩
def sN (b:List Int):Nat→Nat→Nat→List Int→List Int
 | 0,_,_,mem=>mem
 | m+1,i,a,mem=>sN b m (i+1) (a+1) (if a<mem.length then mem.set a (atM b i) else mem)
def xX (b:List Int) (i:Nat):Nat:=(atM b i+256*atM b (i+1)).toNat
def ma (b:List Int):Nat→Nat→List Int→List Int × Nat
 | 0,i,mem=>(mem,i)
 | n+1,i,mem=>ma b n (i+3+(atM b (i+2)).toNat) (sN b (atM b (i+2)).toNat (i+3) (xX b i) mem)
def jW (y:Int):Int:=if y%4=3 then 1 else y%4
def kP (b:List Int):Nat:=min (atM b 5+256*atM b 6).toNat 20000
def vV (b:List Int):List Int × Nat:=ma b (atM b 87).toNat 88 (List.replicate (64*(1+(atM b 3%64).toNat)) 0)
def jX (b:List Int):List Int:=0::(List.range 7).map fun r=>cW b (31+8*r)
def fc (b:List Int):HartM:=
 ⟨(vV b).1,jX b,cW b 7,jW (atM b 4),atM b 4/4%2 == 1,atM b 4/8%2 == 1,if eM (cW b 23)=true then cW b 23 else 0,cW b 15/4*4,0,jW (atM b 4),0,0,⟨aC (atM b 0),aC (atM b 1),aC (atM b 2)⟩⟩
def iF (b:List Int):List Int:=(List.range (kP b)).map fun k=>atM b ((vV b).2+k)
end Go.Proofs.YtaoaifmkhbgaiaaGreat

namespace Go.Proofs.YtaoaifmkhbgaiaaGreat
set_option linter.unusedVariables false
theorem kG (zs:List Int) (va:Int):∀(l:Nat) (n:Int),(cN zs va l n).1=1∨(cN zs va l n).1=2∨(cN zs va l n).1=3
 | 0,n=>by
  unfold cN;split
  ·simp
  ·split
   ·simp
   ·split <;> simp
 | l+1,n=>by
  unfold cN;split
  ·simp
  ·split
   ·simp
   ·split
    ·simp
    ·exact kG zs va l _
theorem kH (zs:List Int) (root va:Int):(bV zs root va).1=1∨(bV zs root va).1=2∨(bV zs root va).1=3:=by
 unfold bV;split
 ·simp
 ·exact kG zs va 2 _
end Go.Proofs.YtaoaifmkhbgaiaaGreat
