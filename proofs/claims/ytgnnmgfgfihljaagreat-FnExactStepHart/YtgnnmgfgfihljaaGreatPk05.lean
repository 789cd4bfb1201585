import Derived.Test.YtgnnmgfgfihljaaGreatPk04
namespace Go.Proofs.YtgnnmgfgfihljaaGreat
open Go.RowKit
set_option linter.unusedVariables false
set_option maxHeartbeats 6400000
set_option maxRecDepth 20000
section
attribute [local go_sem ↓] Go.wp_at_zero Go.wp_at_succ
def fV (va asid l:Int) (x:EntM):Bool:=x.level == l && jS x va asid
def dq (va asid l:Int):Nat->List EntM->Option (Nat × EntM)
 | _,[]=>none
 | i,e::r=>if fV va asid l e=true then some (i,e) else dq va asid l (i+1) r
def gv (l:Int):Option (Nat × EntM)->Option (Bool × Int × Int × Int)
 | none=>none
 | some (i,e)=>some (true,(i:Int),l,e.pte)
def aU (t:TlbM) (va asid:Int):Bool × Int × Int × Int:=
 if ej t=false then (false,0,0,0)
 else ((gv 0 (dq va asid 0 0 t.es)).or ((gv 1 (dq va asid 1 0 t.es)).or (gv 2 (dq va asid 2 0 t.es)))).getD (false,0,0,0)
theorem lH (va asid l:Int):∀(es:List EntM) (i:Nat),(∀(j:Nat) x,es[j]?=some x->fV va asid l x=false)->dq va asid l i es=none
 | [],i,h=>rfl
 | e::r,i,h=>by
  rw [dq,if_neg (by rw [h 0 e rfl];simp)];exact lH va asid l r (i+1) (fun j x hx=>h (j+1) x (by simpa using hx))
theorem lJ (va asid l:Int):∀(es:List EntM) (i k:Nat) (x:EntM),es[k]?=some x->fV va asid l x=true->(∀j y,j<k->es[j]?=some y->fV va asid l y=false)->dq va asid l i es=some (i+k,x)
 | e::r,i,0,x,hx,hh,h=>by
  simp at hx;subst hx;rw [dq,if_pos hh];rfl
 | e::r,i,k+1,x,hx,hh,h=>by
  rw [dq,if_neg (by rw [h 0 e (by omega) rfl];simp),lJ va asid l r (i+1) k x (by simpa using hx) hh (fun j y hj hy=>h (j+1) y (by omega) (by simpa using hy))];congr 2;omega
theorem kt (t:TlbM) (p:Bool):∀(es:List EntM) (i:Nat),eO t p i es=true->∀j x,es[j]?=some x->bZ t p (i+j) x=true
 | e::r,i,h,0,x,hx=>by
  simp at hx;subst hx;simp only [eO,Bool.and_eq_true] at h;exact h.1
 | e::r,i,h,j+1,x,hx=>by
  simp only [eO,Bool.and_eq_true] at h;have:=kt t p r (i+1) h.2 j x (by simpa using hx);rw [show i+(j+1)=i+1+j by omega];exact this
theorem oD {t:TlbM} {p:Bool} {i:Nat} {x:EntM} (h:bZ t p i x=true) (hv:x.valid=true):0<=x.level∧x.level<=2:=by
 simp only [bZ,Bool.or_eq_true,Bool.and_eq_true] at h;rcases h with h | h
 ·rw [hv] at h;simp at h
 ·have:=h.1;simp only [aW,Bool.and_eq_true,decide_eq_true_eq] at this;exact ⟨this.1.1.1.1.1.2,this.1.1.1.1.2⟩
theorem dM {t:TlbM} (h:ej t=true) (j:Nat) (x:EntM) (hx:t.es[j]?=some x) (hv:x.valid=true):0<=x.level∧x.level<=2:=by
 simp only [ej,aL,Bool.or_eq_true,Bool.and_eq_true] at h;rcases h with h | h
 ·exact oD (kt t true t.es 0 h.2 j x hx) hv
 ·exact oD (kt t false t.es 0 h.2 j x hx) hv
theorem xt (t:TlbM) (va asid:Int) (l k:Nat) (x:EntM) (he:ej t=true) (hl:l<=2) (hp:∀l':Nat,l'<l->dq va asid l' 0 t.es=none) (hf:dq va asid l 0 t.es=some (k,x)):
 aU t va asid=(true,(k:Int),(l:Int),x.pte):=by
 unfold aU;rw [if_neg (by rw [he];simp)];rcases (show l=0∨l=1∨l=2 by omega) with rfl | rfl | rfl
 ·have hf':dq va asid 0 0 t.es=some (k,x):=hf;rw [hf'];rfl
 ·have h0:dq va asid 0 0 t.es=none:=hp 0 (by omega);have hf':dq va asid 1 0 t.es=some (k,x):=hf;rw [h0,hf'];rfl
 ·have h0:dq va asid 0 0 t.es=none:=hp 0 (by omega);have h1:dq va asid 1 0 t.es=none:=hp 1 (by omega);have hf':dq va asid 2 0 t.es=some (k,x):=hf;rw [h0,h1,hf'];rfl
theorem rV (t:TlbM) (va asid:Int) (he:ej t=true) (hp:∀l':Nat,l'<3->dq va asid l' 0 t.es=none):aU t va asid=(false,0,0,0):=by
 have h0:dq va asid 0 0 t.es=none:=hp 0 (by omega);have h1:dq va asid 1 0 t.es=none:=hp 1 (by omega);have h2:dq va asid 2 0 t.es=none:=hp 2 (by omega);unfold aU;rw [if_neg (by rw [he];simp),h0,h1,h2];rfl
theorem eU (v:Value) (t:TlbM) (va asid:Int) (w:World) (h:TlbAt w v t) (hv0:0<=va) (hv1:va<=18446744073709551615):
 Calls Tryz.prog 151 #[v,.int .u64 va,.int .u64 asid] w fun e w'=>
  e=.returned (.agg #[.bool (aU t va asid).1,.int .i64 (aU t va asid).2.1,.int .i64 (aU t va asid).2.2.1,.int .u64 (aU t va asid).2.2.2])∧Below w.heap.size w w':=by
 have HT:=hid h;obtain ⟨a,cap,rfl,hr,he,hs,hw,hl,hlc,hcm,hnil,hsp⟩:=h;obtain ⟨⟨x1,x2,x3,x4⟩,hX⟩:∃X,aU t va asid=X:=⟨_,rfl⟩;rw [hX];simp only;have HX:=hid hX;obtain ⟨eb,heb⟩:∃eb,ej t=eb:=⟨_,rfl⟩;have HEb:=hid heb;obtain ⟨n,hn⟩:∃n,t.es.length=n:=⟨_,rfl⟩;have HN:=hid hn;rw [hn] at hr hl hlc hnil |-;have HR:=hid hr;have HE:=hid he;have n1:=((Below.refl w.heap.size w).alloc nle (Obj.cells #[.int .i64 t.sets,.int .i64 t.ways,.slice a n cap] 35)).alloc (by simp) (Obj.cells #[.bool false,.int .i64 0,.int .i64 0,.int .u64 0] 256);have H1:Hid (((w.alloc (Obj.cells #[.int .i64 t.sets,.int .i64 t.ways,.slice a n cap] 35)).alloc (Obj.cells #[.bool false,.int .i64 0,.int .i64 0,.int .u64 0] 256)).heap[w.heap.size+1]?=some (.cells #[.bool false,.int .i64 0,.int .i64 0,.int .u64 0] 256 (0,0))):=by
  have:=heap_alloc_new (w.alloc (Obj.cells #[.int .i64 t.sets,.int .i64 t.ways,.slice a n cap] 35)) (Obj.cells #[.bool false,.int .i64 0,.int .i64 0,.int .u64 0] 256);simp only [World.size_alloc] at this;exact this
 have H2:Hid (((w.alloc (Obj.cells #[.int .i64 t.sets,.int .i64 t.ways,.slice a n cap] 35)).alloc (Obj.cells #[.bool false,.int .i64 0,.int .i64 0,.int .u64 0] 256)).cell? ⟨w.heap.size,2,none⟩=some (.slice a n cap)):=by
  show _=_;simp
 have l1:w.heap.size+1<((w.alloc (Obj.cells #[.int .i64 t.sets,.int .i64 t.ways,.slice a n cap] 35)).alloc (Obj.cells #[.bool false,.int .i64 0,.int .i64 0,.int .u64 0] 256)).heap.size:=by simp
 clear hX heb hn hr he hs hw hnil hsp;go_enter Tryz.func151,Tryz.ntmps151;go_wp2_with fail;generalize (w.alloc (Obj.cells #[.int .i64 t.sets,.int .i64 t.ways,.slice a n cap] 35)).alloc (Obj.cells #[.bool false,.int .i64 0,.int .i64 0,.int .u64 0] 256)=v1 at n1 H1 H2 l1 |-;have HTn:Hid (TlbAt w (.agg #[.int .i64 t.sets,.int .i64 t.ways,.slice a n cap]) t):=by have:=HT.out;rw [HN.out] at this;exact this
 refine (mz _ t v1 (HTn.out.keep n1)).mono ?_;rw [HEb.out];rintro e v2 ⟨rfl,n2⟩;have n12:=bst n1 n2;have K1:=hid (ae H1.out n2 l1);have K2:=Below.cell2 n2 H2.out (by omega);have l2:=Nat.lt_of_lt_of_le l1 n2.size;clear n1 n2 H1 H2 l1;cases eb
 ·obtain ⟨⟨d0,d1,d2,d3⟩,e0,e1,e2,e3⟩:=av K1.out;have hz:(x1,x2,x3,x4)=(false,0,0,0):=by rw [<-HX.out];unfold aU;rw [if_pos HEb.out]
  cases hz;go_wp2_with fail;exact bodyPost_ret (v:=.agg #[.bool false,.int .i64 0,.int .i64 0,.int .u64 0]) (by simp [results,Tryz.results151,go_sem,d0,d1,d2,d3]) rfl ⟨rfl,nu n12 (by omega) _ _ _ _⟩
 ·go_wp2_with fail;go_loopw [7] (fun lev wr=>∃l:Nat,l<=3∧lev=.int .i64 l∧(∀l':Nat,l'<l->dq va asid l' 0 t.es=none)∧Below v2.heap.size v2 wr) (fun lev _=>3-(intOf lev).toNat)
  case atStart=>exact ⟨0,by omega,rfl,fun l' h=>absurd h (by omega),Below.refl _ _⟩
  case round=>
   obtain ⟨l,hl3,rfl,hprev,hb⟩:=hrel;have HPv:=hid hprev;clear hprev;by_cases hlt:l<=2
   ·have hlt':decide ((l:Int)<=2)=true:=by simp;omega
    go_wp2_with fail;go_loopw [8] (fun i wq=>∃k:Nat,k<=n∧i=.int .i64 k∧(∀j x,j<k->t.es[j]?=some x->fV va asid l x=false)∧Below v2.heap.size v2 wq) (fun i _=>n-(intOf i).toNat)
    case atStart=>exact ⟨0,Nat.zero_le _,rfl,fun j x hj=>absurd hj (by omega),hb⟩
    case round=>
     obtain ⟨k,hk,rfl,hall,hbq⟩:=hrel;have HA:=hid hall;clear hall hb;have d12:=Below.cell2 hbq K2 (by omega);have l3:w.heap.size+1<wr.heap.size:=Nat.lt_of_lt_of_le l2 hbq.size;have n1q:=bst n12 hbq;by_cases hkn:k<n
     ·have hx:∃x:EntM,t.es[k]?=some x:=⟨_,List.getElem?_eq_getElem (by have:=HN.out;omega)⟩;obtain ⟨⟨v,lv,tg,asd,gl,pt⟩,hx⟩:=hx;have hok:dS ⟨v,lv,tg,asd,gl,pt⟩:=HE.out _ (List.mem_of_getElem? hx);have hlv:=dM HEb.out k _ hx;obtain ⟨b,off,rfl⟩:∃b off,a=some ⟨b,off,none⟩:=by
       rcases HR.out.2 with h0 | ⟨b,off,rfl,_,_⟩
       ·omega
       ·exact ⟨b,off,rfl⟩
      have HRr:=RowC.keep HR.out n1q;have g0:wr.cell? ⟨b,off+k*6,none⟩=some (.bool v):=dy HRr HN.out k _ hx 0 _ (by omega) rfl;have g1:wr.cell? ⟨b,off+k*6+1,none⟩=some (.int .i64 lv):=dy HRr HN.out k _ hx 1 _ (by omega) rfl;have g2:wr.cell? ⟨b,off+k*6+2,none⟩=some (.int .u64 tg):=dy HRr HN.out k _ hx 2 _ (by omega) rfl;have g3:wr.cell? ⟨b,off+k*6+3,none⟩=some (.int .u64 asd):=dy HRr HN.out k _ hx 3 _ (by omega) rfl;have g4:wr.cell? ⟨b,off+k*6+4,none⟩=some (.bool gl):=dy HRr HN.out k _ hx 4 _ (by omega) rfl;have g5:wr.cell? ⟨b,off+k*6+5,none⟩=some (.int .u64 pt):=dy HRr HN.out k _ hx 5 _ (by omega) rfl;have HXk:Hid (t.es[k]?=some ⟨v,lv,tg,asd,gl,pt⟩):=hx;have HLv:Hid (v=true->0<=lv∧lv<=2):=hlv;have HPt:Hid (fV va asid l ⟨v,lv,tg,asd,gl,pt⟩=false->∀j x,j<k+1->t.es[j]?=some x->fV va asid l x=false):=fun h j x hj hx'=>by
       by_cases e:j=k
       ·subst e;rw [hx] at hx';cases hx';exact h
       ·exact HA.out j x (by omega) hx'
      clear hx HRr hlv;obtain ⟨fv,hfv⟩:∃fv,jS ⟨v,lv,tg,asd,gl,pt⟩ va asid=fv:=⟨_,rfl⟩;have HF:Hid (jS ⟨v,lv,tg,asd,gl,pt⟩ va asid=fv):=hfv;clear hfv;cases hq:(lv == (l:Int))
      ·go_wp2_with fail;go_roundw
       case rel=>exact ⟨k+1,by omega,by go_num,HPt.out (by simp [fV,hq]),hbq⟩
       case measure=>simp [intOf];omega
      ·have hq':lv=(l:Int):=by simpa using hq
       subst hq';clear hq;go_wp2_with fail;refine (wJ ⟨v,(l:Int),tg,asd,gl,pt⟩ va asid wr hok HLv.out hv0 hv1).mono ?_;rw [HF.out];rintro e v5 ⟨rfl,n5⟩;have hb5:=bst hbq n5;have n15:=bst n1q n5;have p5:v5.cell? ⟨b,off+k*6+5,none⟩=some (.int .u64 pt):=Below.cell2 n5 g5 (by
        rcases HR.out.2 with h0 | ⟨b',off',e,hlt',_⟩
        ·omega
        ·cases e;exact Nat.lt_of_lt_of_le hlt' n1q.size)
       have p12:=Below.cell2 n5 d12 (by omega);obtain ⟨⟨d0,d1,d2,d3⟩,e0,e1,e2,e3⟩:=av (ae K1.out hb5 l2);clear g0 g1 g2 g3 g4 g5 d12 n5;cases fv
       ·clear d0 d1 d2 d3 e0 e1 e2 e3 p5;go_wp2_with fail;go_roundw
        case rel=>exact ⟨k+1,by omega,by go_num,HPt.out (by simp [fV,HF.out]),hb5⟩
        case measure=>simp [intOf];omega
       ·have hh:fV va asid l ⟨v,(l:Int),tg,asd,gl,pt⟩=true:=by simp [fV,HF.out]
        have hfind:=lJ va asid l t.es 0 k _ HXk.out hh HA.out;have HV:Hid ((x1,x2,x3,x4)=(true,(k:Int),(l:Int),pt)):=by
         show _=_;rw [<-HX.out];exact xt t va asid l k _ HEb.out hlt HPv.out (by rw [hfind,Nat.zero_add])
        clear hh hfind;have hV:=HV.out;cases hV;go_wp2_with fail;exact bodyPost_ret (v:=.agg #[.bool true,.int .i64 k,.int .i64 l,.int .u64 x4]) (by simp [results,Tryz.results151,go_sem,d0,d1,d2,d3]) rfl ⟨rfl,nu n15 (by omega) _ _ _ _⟩
     ·have hkn':k=n:=by omega
      have HF:=hid (lH va asid l t.es 0 (fun j x hx=>HA.out j x (by have h1:=(List.getElem?_eq_some_iff.1 hx).1;have h2:=HN.out;omega) hx));go_wp2_with fail;go_roundw
      case rel=>exact ⟨l+1,by omega,by go_num,fun l' h=>by
       by_cases e:l'=l
       ·subst e;exact HF.out
       ·exact HPv.out l' (by omega),hbq⟩
      case measure=>simp [intOf];omega
   ·obtain ⟨⟨d0,d1,d2,d3⟩,e0,e1,e2,e3⟩:=av (ae K1.out hb l2);have n14:=bst n12 hb;have hz:(x1,x2,x3,x4)=(false,0,0,0):=by
     rw [<-HX.out];exact rV t va asid HEb.out (fun l' h=>HPv.out l' (by omega))
    cases hz;clear K2;go_wp2_with fail;exact bodyPost_ret (v:=.agg #[.bool false,.int .i64 0,.int .i64 0,.int .u64 0]) (by simp [results,Tryz.results151,go_sem,d0,d1,d2,d3]) rfl ⟨rfl,nu n14 (by omega) _ _ _ _⟩
end
structure KM where
 i:TlbM
 d:TlbM
 p:TlbM
def vl:TlbM:=⟨0,0,[]⟩
def k0M:KM:=⟨vl,vl,vl⟩
def bf (k:KM):Bool:=aL k.i false && aL k.d false && aL k.p true
def ee (level va satp pte:Int):EntM:=⟨true,level,eF va level,aG satp,bj pte 32,pte⟩
def dW (t:TlbM) (f:FenceM):TlbM:=if ej t=true then ⟨t.sets,t.ways,t.es.map (bT f)⟩ else t
def jm (t:TlbM) (e:EntM):Bool:=(aL t true && aW e true) || (aL t false && aW e false)
def eA (t:TlbM) (e:EntM):Nat:=(e.tag%t.sets*t.ways).toNat
def iq (t:TlbM) (e:EntM) (pick:Int):Nat:=(ke t.es (eA t e) 0 t.ways.toNat).getD (pick%t.ways).toNat
def cV (t:TlbM) (e:EntM) (pick:Int):TlbM:=
 if jm t e=true∧0<=pick∧pick<=255 then ⟨t.sets,t.ways,t.es.set (eA t e+iq t e pick) e⟩ else t
def cx (va satp pick:Int):List dG->TlbM->TlbM
 | [],p=>p
 | r::rs,p=>cx va satp pick rs (if bu r.2.2 r.1=1 then cV p (ee r.1 va satp r.2.2) pick else p)
def aY (zs:List Int) (satp va:Int) (up:Bool × Int × Int × Int):Int × Int × Int × List dG:=
 if up.1=true then cE zs va (up.2.2.1-1).toNat (dg up.2.2.2) else ce zs satp va
def rJ (k:KM) (kind:Int) (t:TlbM):KM:=if kind=0 then ⟨t,k.d,k.p⟩ else ⟨k.i,t,k.p⟩
def ep (k:KM) (kind:Int):TlbM:=if kind=0 then k.i else k.d
def ct (zs:List Int) (mode:Int) (sum mxr:Bool) (satp:Int) (k:KM) (kind va pick:Int):(Int × Int) × KM:=
 if bf k=false∨kind<0∨2<kind∨mode<0∨2<mode∨pick<0∨255<pick then ((63,0),k0M)
 else if onM mode satp=false then ((0,va),k)
 else if cP va=false then ((dL kind,0),k)
 else if (aU (ep k kind) va (aG satp)).1=true then (er (aU (ep k kind) va (aG satp)).2.2.2 (aU (ep k kind) va (aG satp)).2.2.1 mode sum mxr kind va,k)
 else
  let r:=aY zs satp va (aU k.p va (aG satp))
  let a:=cK r mode sum mxr kind va
  let k':KM:=⟨k.i,k.d,cx va satp pick r.2.2.2 k.p⟩
  (a,if a.1=0 then rJ k' kind (cV (ep k kind) (ee r.2.1 va satp r.2.2.1) pick) else k')
theorem eL {t:TlbM} {p:Bool} (h:aL t p=true):(t.sets=1∨t.sets=2∨t.sets=4∨t.sets=8)∧1<=t.ways∧t.ways<=4∧(t.es.length:Int)=t.sets*t.ways:=by
 simp only [aL,Bool.and_eq_true,iE,decide_eq_true_eq] at h;exact h.1
theorem iX {t:TlbM} {p:Bool} (h:aL t p=true) (j:Nat) (x:EntM) (hx:t.es[j]?=some x):bZ t p j x=true:=by
 simp only [aL,Bool.and_eq_true] at h;have:=kt t p t.es 0 h.2 j x hx;simpa using this
theorem qQ {t:TlbM} {p:Bool} (h:iE t=true) (hp:∀(j:Nat) x,t.es[j]?=some x->bZ t p j x=true):aL t p=true:=by
 simp only [aL,Bool.and_eq_true];exact ⟨h,fP t p t.es 0 (fun j x hx=>by simpa using hp j x hx)⟩
theorem dC {t:TlbM} {p:Bool} (h:aL t p=true):ej t=true:=by
 cases p <;> simp [ej,h]
theorem vm (es:List EntM) (first:Nat):∀(left w r:Nat),ke es first w left=some r->w<=r∧r<w+left
 | 0,w,r,h=>by simp [ke] at h
 | left+1,w,r,h=>by
  rw [ke] at h;split at h
  ·cases h;omega
  ·have:=vm es first left (w+1) r h
   omega
theorem xP (t:TlbM) (e:EntM) (pick:Int) (hw:1<=t.ways) (hw':t.ways<=4):(iq t e pick:Int)<t.ways:=by
 unfold iq;cases h:ke t.es (eA t e) 0 t.ways.toNat with
 | none=>
  simp only [Option.getD_none];have h1:0<=pick%t.ways:=Int.emod_nonneg _ (by omega);have h2:pick%t.ways<t.ways:=Int.emod_lt_of_pos _ (by omega);omega
 | some r=>
  simp only [Option.getD_some];have:=vm _ _ _ _ _ h;omega
theorem qR {t:TlbM} {e:EntM} (ht:0<=e.tag) (hs:t.sets=1∨t.sets=2∨t.sets=4∨t.sets=8) (hw:1<=t.ways):(eA t e:Int)=e.tag%t.sets*t.ways:=by
 unfold eA;have:0<=e.tag%t.sets:=Int.emod_nonneg _ (by omega);have:=Int.mul_nonneg this (by omega:0<=t.ways);omega
theorem BD {t:TlbM} {p:Bool} {e:EntM} {pick:Int} (hv:aL t p=true) (ht:0<=e.tag):eA t e+iq t e pick<t.es.length:=by
 obtain ⟨hs,hw,hw',hl⟩:=eL hv;have h1:=qR (e:=e) ht hs hw;have h2:=xP t e pick hw hw';have h3:e.tag%t.sets<t.sets:=Int.emod_lt_of_pos _ (by omega);have h4:0<=e.tag%t.sets:=Int.emod_nonneg _ (by omega);have h5:(e.tag%t.sets+1)*t.ways<=t.sets*t.ways:=Int.mul_le_mul_of_nonneg_right (by omega) (by omega);rw [Int.add_mul] at h5;omega
theorem AW {t:TlbM} {p:Bool} {e:EntM} {pick:Int} (hv:aL t p=true) (ht:0<=e.tag):((eA t e+iq t e pick:Nat):Int)/t.ways=e.tag%t.sets:=by
 obtain ⟨hs,hw,hw',hl⟩:=eL hv;have h1:=qR (e:=e) ht hs hw;have h2:=xP t e pick hw hw';rw [show ((eA t e+iq t e pick:Nat):Int)=(iq t e pick:Int)+(e.tag%t.sets)*t.ways by omega,Int.add_mul_ediv_right _ _ (by omega)];rw [Int.ediv_eq_zero_of_lt (by omega) h2];omega
theorem yI {e:EntM} {p:Bool} (h:aW e p=true):bu e.pte e.level=gD p:=by
 simp only [aW,Bool.and_eq_true,beq_iff_eq] at h;exact h.2
theorem jn (t:TlbM) (e:EntM) (pick:Int) (p:Bool) (hv:aL t p=true) (hg:aW e p=true) (ht:0<=e.tag):aL (cV t e pick) p=true:=by
 unfold cV;split
 ·have hs:=eL hv;refine qQ ?_ ?_
  ·simp only [iE,decide_eq_true_eq,List.length_set];exact hs
  ·intro j x hx;simp only [List.getElem?_set] at hx;split at hx
   ·rename_i hj;split at hx
    ·cases hx;subst hj;simp only [bZ,Bool.or_eq_true,Bool.and_eq_true,beq_iff_eq];exact .inr ⟨hg,(AW (pick:=pick) hv ht).symm⟩
    ·cases hx
   ·exact iX hv j x hx
 ·exact hv
theorem kf (t:TlbM) (f:FenceM) (p:Bool) (hv:aL t p=true):aL (dW t f) p=true:=by
 unfold dW;rw [if_pos (dC hv)];have hs:=eL hv;refine qQ ?_ ?_
 ·simp only [iE,decide_eq_true_eq,List.length_map];exact hs
 ·intro j x hx;simp only [List.getElem?_map,Option.map_eq_some_iff] at hx;obtain ⟨y,hy,rfl⟩:=hx;have:=iX hv j y hy;unfold bT;split
  ·simp [bZ,cO]
  ·exact this
section
attribute [local go_sem ↓] Go.wp_at_zero Go.wp_at_succ
def bD (f:FenceM) (k:Nat) (es:List EntM):List EntM:=(es.take k).map (bT f)++es.drop k
theorem iy (f:FenceM) (k:Nat) (es:List EntM):(bD f k es).length=es.length:=by
 simp [bD];omega
theorem mA (f:FenceM) (k:Nat) (es:List EntM) (x:EntM) (hx:es[k]?=some x):bD f (k+1) es=(bD f k es).set k (bT f x):=by
 obtain ⟨hk,rfl⟩:=List.getElem?_eq_some_iff.1 hx;unfold bD;apply List.ext_getElem?;intro j;rw [List.getElem?_set];by_cases hj:k=j
 ·subst hj;rw [if_pos rfl,if_pos (by simp;omega),List.getElem?_append_left (by simp;omega)];simp [hk]
 ·rw [if_neg hj];by_cases hlt:j<k
  ·rw [List.getElem?_append_left (by simp;omega),List.getElem?_append_left (by simp;omega)];simp [hlt,show j<k+1 by omega]
  ·rw [List.getElem?_append_right (by simp;omega),List.getElem?_append_right (by simp;omega)];simp;rw [show min (k+1) es.length=k+1 by omega,show min k es.length=k by omega];congr 1;omega
theorem gZ:∀(l:List EntM) (k:Nat) (e:EntM),k<l.length->az (l.set k e)=((((((az l).set (k*6) (.bool e.valid)).set (k*6+1) (.int .i64 e.level)).set (k*6+2) (.int .u64 e.tag)).set (k*6+3) (.int .u64 e.asid)).set (k*6+4) (.bool e.glob)).set (k*6+5) (.int .u64 e.pte)
 | x::r,0,e,h=>by simp [az,gk]
 | x::r,k+1,e,h=>by
  have ih:=gZ r k e (by simpa using h);rw [List.set_cons_succ];simp only [az,ih];rw [show (k+1)*6=(gk x).length+k*6 by simp [gk];omega];simp only [Nat.add_assoc];rw [List.set_append_right _ _ (by simp [gk]),List.set_append_right _ _ (by omega),List.set_append_right _ _ (by omega),List.set_append_right _ _ (by omega),List.set_append_right _ _ (by omega),List.set_append_right _ _ (by omega)];simp
theorem iD (v:Value) (t:TlbM) (f:FenceM) (w:World) (h:TlbAt w v t) (hf0:0<=f.va) (hf1:f.va<=18446744073709551615):
 Calls Tryz.prog 125 #[v,tw f] w fun e w'=>(∃x,e=.returned x∧TlbOwn w.heap.size w' x (dW t f))∧Below w.heap.size w w':=by
 have HT:=hid h;have HOK:=hid (TlbAt.ok h);obtain ⟨a,cap,rfl,hr,_,_,_,hl,hlc,hcm,hnil,hsp⟩:=h;obtain ⟨eb,heb⟩:∃eb,ej t=eb:=⟨_,rfl⟩;have HEb:=hid heb;obtain ⟨sets,ways,es⟩:=t;obtain ⟨hv,fva,ha,fa⟩:=f;obtain ⟨n,hn⟩:∃n,es.length=n:=⟨_,rfl⟩;simp only at hr hl hlc hnil hf0 hf1 HT |-;have HN:=hid hn;rw [hn] at hr hl hlc hnil HT |-;obtain ⟨X,hX⟩:∃X,dW ⟨sets,ways,es⟩ ⟨hv,fva,ha,fa⟩=X:=⟨_,rfl⟩;have HX:=hid hX;rw [hX];have HR0:=hid hr;have HLv:Hid (eb=true->∀(j:Nat) x,es[j]?=some x->x.valid=true->0<=x.level∧x.level<=2):=fun h j x hx hv=>dM (t:=⟨sets,ways,es⟩) (heb.trans h) j x hx hv;clear hX;unfold tw;simp only;have n1:=(((Below.refl w.heap.size w).alloc nle (Obj.cells #[.int .i64 sets,.int .i64 ways,.slice a n cap] 35)).alloc (by simp) (Obj.cells #[.bool hv,.int .u64 fva,.bool ha,.int .u64 fa] 64)).alloc (by simp;omega) (Obj.cells #[.int .i64 0,.int .i64 0,.slice none 0 0] 35);have HT1:=hid (HT.out.keep n1);have HR1:=hid (hr.keep n1);have H1:Hid ((((w.alloc (Obj.cells #[.int .i64 sets,.int .i64 ways,.slice a n cap] 35)).alloc (Obj.cells #[.bool hv,.int .u64 fva,.bool ha,.int .u64 fa] 64)).alloc (Obj.cells #[.int .i64 0,.int .i64 0,.slice none 0 0] 35)).heap[w.heap.size]?=some (.cells #[.int .i64 sets,.int .i64 ways,.slice a n cap] 35 (0,0))):=by
  show _=_;rw [heap_alloc_old _ _ (by simp;omega),heap_alloc_old _ _ (by simp)];exact heap_alloc_new w _
 have H2:Hid ((((w.alloc (Obj.cells #[.int .i64 sets,.int .i64 ways,.slice a n cap] 35)).alloc (Obj.cells #[.bool hv,.int .u64 fva,.bool ha,.int .u64 fa] 64)).alloc (Obj.cells #[.int .i64 0,.int .i64 0,.slice none 0 0] 35)).heap[w.heap.size+1]?=some (.cells #[.bool hv,.int .u64 fva,.bool ha,.int .u64 fa] 64 (0,0))):=by
  show _=_;rw [heap_alloc_old _ _ (by simp)];have:=heap_alloc_new (w.alloc (Obj.cells #[.int .i64 sets,.int .i64 ways,.slice a n cap] 35)) (Obj.cells #[.bool hv,.int .u64 fva,.bool ha,.int .u64 fa] 64);simp only [World.size_alloc] at this;exact this
 have H3:Hid ((((w.alloc (Obj.cells #[.int .i64 sets,.int .i64 ways,.slice a n cap] 35)).alloc (Obj.cells #[.bool hv,.int .u64 fva,.bool ha,.int .u64 fa] 64)).alloc (Obj.cells #[.int .i64 0,.int .i64 0,.slice none 0 0] 35)).heap[w.heap.size+1+1]?=some (.cells #[.int .i64 0,.int .i64 0,.slice none 0 0] 35 (0,0))):=by
  have:=heap_alloc_new ((w.alloc (Obj.cells #[.int .i64 sets,.int .i64 ways,.slice a n cap] 35)).alloc (Obj.cells #[.bool hv,.int .u64 fva,.bool ha,.int .u64 fa] 64)) (Obj.cells #[.int .i64 0,.int .i64 0,.slice none 0 0] 35);simp only [World.size_alloc] at this;exact this
 have l1:w.heap.size+1+1<(((w.alloc (Obj.cells #[.int .i64 sets,.int .i64 ways,.slice a n cap] 35)).alloc (Obj.cells #[.bool hv,.int .u64 fva,.bool ha,.int .u64 fa] 64)).alloc (Obj.cells #[.int .i64 0,.int .i64 0,.slice none 0 0] 35)).heap.size:=by simp
 clear hr hnil hsp HT heb hn;go_enter Tryz.func125,Tryz.ntmps125;go_wp2_with fail;generalize (((w.alloc (Obj.cells #[.int .i64 sets,.int .i64 ways,.slice a n cap] 35)).alloc (Obj.cells #[.bool hv,.int .u64 fva,.bool ha,.int .u64 fa] 64)).alloc (Obj.cells #[.int .i64 0,.int .i64 0,.slice none 0 0] 35))=v1 at n1 HT1 HR1 H1 H2 H3 l1 |-;refine (gc _ ⟨sets,ways,es⟩ v1 HT1.out).mono ?_;rintro e v2 ⟨⟨x,rfl,g,cp,rfl,o2⟩,n2⟩;simp only at o2 |-;rw [HN.out] at o2 |-;have O2:=hid o2;have hg:=bC o2;have n12:=bst n1 n2;have HT2:=hid (HT1.out.keep n2);have HR2:=hid (RowC.keep HR1.out n2);have K1:=ab H1 n2;have K2:=ab H2 n2;have K3:=ab H3 n2;have l2:=n2.size;obtain ⟨_,hg1,hg2⟩:=hg;simp only at hg1 hg2;clear o2 n1 n2 HT1 HR1 H1 H2 H3;obtain ⟨⟨c0,c1,c2⟩,_,_,_⟩:=ay K1.out;have s0:w.heap.size<v2.heap.size:=by omega
 go_wp2_with fail;have n3:=(Below.refl v2.heap.size v2).alloc nle (Obj.cells #[.int .i64 sets,.int .i64 ways,.slice (some ⟨g,0,none⟩) n cp] 35);have H4:Hid ((v2.alloc (Obj.cells #[.int .i64 sets,.int .i64 ways,.slice (some ⟨g,0,none⟩) n cp] 35)).heap[v2.heap.size]?=some (.cells #[.int .i64 sets,.int .i64 ways,.slice (some ⟨g,0,none⟩) n cp] 35 (0,0))):=heap_alloc_new v2 _;have l3:v2.heap.size<(v2.alloc (Obj.cells #[.int .i64 sets,.int .i64 ways,.slice (some ⟨g,0,none⟩) n cp] 35)).heap.size:=by simp
 generalize v2.alloc (Obj.cells #[.int .i64 sets,.int .i64 ways,.slice (some ⟨g,0,none⟩) n cp] 35)=v3 at n3 H4 l3 |-;have n13:=bst n12 n3;have HT3:=hid (HT2.out.keep n3);refine (mz _ ⟨sets,ways,es⟩ v3 HT3.out).mono ?_;rw [HEb.out];rintro e v4 ⟨rfl,n4⟩;have n34:=bst n3 n4;have A4:=bst n12 n34;have HR4:Hid (RowC v4 a n 6 (az es)):=RowC.keep HR2.out n34;have O4:Hid (v4.ownsRow v1.heap.size 153 6 (.slice (some ⟨g,0,none⟩) n cp) n (az es)):=ag O2.out n34;have P1:=ab K1 n34;have P2:=ab K2 n34;have P3:=ab K3 n34;have P4:=ab H4 n4;have l4:v2.heap.size<v4.heap.size:=Nat.lt_of_lt_of_le l3 n4.size;clear c0 c1 c2 n12 n13 n3 n4 n34 HT2 HT3 HR2 O2 K1 K2 K3 H4 l3;obtain ⟨⟨p0,p1,p2⟩,_,_,_⟩:=ay P4.out;cases eb
 ·have hfl:X=⟨sets,ways,es⟩:=by rw [<-HX.out];unfold dW;rw [if_neg (by rw [HEb.out];simp)]
  obtain ⟨⟨d0,d1,d2⟩,e0,e1,e2⟩:=ay P3.out;go_wp2_with fail;refine bodyPost_ret (v:=.agg #[.int .i64 sets,.int .i64 ways,.slice (some ⟨g,0,none⟩) n cp]) (by simp [results,Tryz.results125,go_sem,d0,d1,d2]) rfl ⟨⟨_,rfl,?_⟩,fu A4 (by omega) _ _ _⟩;rw [hfl];refine ⟨g,cp,by rw [HN.out],?_⟩;simp only;rw [HN.out];exact aK (bX O4.out (gb3 v4 (w.heap.size+1+1) _ _ _) (by omega)) (by omega)
 ·have HLv':=HLv.out rfl;have HL2:Hid (∀(j:Nat) x,es[j]?=some x->x.valid=true->0<=x.level∧x.level<=2):=HLv';clear HLv HLv';go_wp2_with fail;go_loopw [6] (fun i wr=>∃k:Nat,k<=n∧i=.int .i64 k∧v4.grownBy wr (some g)∧wr.ownsRow v1.heap.size 153 6 (.slice (some ⟨g,0,none⟩) n cp) n (az (bD ⟨hv,fva,ha,fa⟩ k es))) (fun i _=>n-(intOf i).toNat)
  case atStart=>exact ⟨0,Nat.zero_le _,rfl,au _ _,by rw [show bD ⟨hv,fva,ha,fa⟩ 0 es=es by simp [bD]];exact O4.out⟩
  case round=>
   obtain ⟨k,hk,rfl,hn,hO⟩:=hrel;have HO:Hid (wr.ownsRow v1.heap.size 153 6 (.slice (some ⟨g,0,none⟩) n cp) n (az (bD ⟨hv,fva,ha,fa⟩ k es))):=hO;have lr:v4.heap.size<=wr.heap.size:=hn.size;clear p0 p1 p2;obtain ⟨⟨p0,p1,p2⟩,_,_,_⟩:=ay (aQ P4.out hn (by omega));by_cases hlt:k<n
   ·obtain ⟨x,hx⟩:∃x,es[k]?=some x:=⟨_,List.getElem?_eq_getElem (by rw [HN.out];exact hlt)⟩;obtain ⟨b,off,rfl,hb⟩:∃b off,a=some ⟨b,off,none⟩∧b<w.heap.size:=by
     rcases HR0.out.2 with h | ⟨b,off,h,h2,_⟩
     ·omega
     ·exact ⟨b,off,h,h2⟩
    have CE:∀j u,j<6->(gk x)[j]?=some u->wr.cell? ⟨b,off+(k*6+j),none⟩=some u:=fun j u hj hu=>
     mE hn (Below.cell2 A4 (dy HR0.out HN.out k x hx j u hj hu) hb) (by omega) (by omega)
    obtain ⟨vv,lv,tg,asd,gl,pt⟩:=x;have g0:wr.cell? ⟨b,off+k*6,none⟩=some (.bool vv):=CE 0 _ (by omega) rfl;have g1:wr.cell? ⟨b,off+k*6+1,none⟩=some (.int .i64 lv):=CE 1 _ (by omega) rfl;have g2:wr.cell? ⟨b,off+k*6+2,none⟩=some (.int .u64 tg):=CE 2 _ (by omega) rfl;have g3:wr.cell? ⟨b,off+k*6+3,none⟩=some (.int .u64 asd):=CE 3 _ (by omega) rfl;have g4:wr.cell? ⟨b,off+k*6+4,none⟩=some (.bool gl):=CE 4 _ (by omega) rfl;have g5:wr.cell? ⟨b,off+k*6+5,none⟩=some (.int .u64 pt):=CE 5 _ (by omega) rfl;have hok:dS ⟨vv,lv,tg,asd,gl,pt⟩:=HOK.out.1 _ (List.mem_of_getElem? hx);have HNx:Hid (bD ⟨hv,fva,ha,fa⟩ (k+1) es=(bD ⟨hv,fva,ha,fa⟩ k es).set k (bT ⟨hv,fva,ha,fa⟩ ⟨vv,lv,tg,asd,gl,pt⟩)):=mA _ k es _ hx;have HSm:Hid ((bD ⟨hv,fva,ha,fa⟩ k es).set k ⟨vv,lv,tg,asd,gl,pt⟩=bD ⟨hv,fva,ha,fa⟩ k es):=by
     show _=_;apply List.ext_getElem?;intro j;rw [List.getElem?_set];by_cases hj:k=j
     ·subst hj;rw [if_pos rfl,if_pos (by rw [iy,HN.out];exact hlt)];unfold bD;have hkl:k<=es.length:=by rw [HN.out];omega
      rw [List.getElem?_append_right (by simp;omega),List.length_map,List.length_take,Nat.min_eq_left hkl,Nat.sub_self,List.getElem?_drop,Nat.add_zero,hx]
     ·rw [if_neg hj]
    have HLx:Hid (vv=true->0<=lv∧lv<=2):=fun h=>HL2.out k _ hx h;obtain ⟨⟨c0,c1,c2⟩,_,_,_⟩:=ay (aQ P1.out hn (by omega));obtain ⟨⟨f0,f1,f2,f3⟩,_,_,_,_⟩:=av (aQ P2.out hn (by omega));have u0:w.heap.size<wr.heap.size:=by omega
    have u1:w.heap.size+1<wr.heap.size:=by omega
    have u2:v2.heap.size<wr.heap.size:=by omega
    have n5:=(Below.refl wr.heap.size wr).alloc nle (Obj.cells #[.bool vv,.int .i64 lv,.int .u64 tg,.int .u64 asd,.bool gl,.int .u64 pt] 153);clear CE hx hO;cases vv
    ·have hst:bT ⟨hv,fva,ha,fa⟩ ⟨false,lv,tg,asd,gl,pt⟩=⟨false,lv,tg,asd,gl,pt⟩:=by simp [bT]
     go_wp2_with fail;go_roundw
     case rel=>exact ⟨k+1,by omega,by go_num,eW hn n5,by rw [HNx.out,hst,HSm.out];exact ag HO.out n5⟩
     case measure=>simp [intOf];omega
    ·obtain ⟨hl0,hl2⟩:=HLx.out rfl;obtain ⟨cb,hcb⟩:∃cb,gu ⟨hv,fva,ha,fa⟩ lv tg asd gl=cb:=⟨_,rfl⟩;have HCov:Hid (∀w,Calls Tryz.prog 163 #[.agg #[.bool hv,.int .u64 fva,.bool ha,.int .u64 fa],.int .i64 lv,.int .u64 tg,.int .u64 asd,.bool gl] w fun e w'=>e=.returned (.bool cb)∧Below w.heap.size w w'):=fun w=>by
      have:=tz ⟨hv,fva,ha,fa⟩ lv tg asd gl w hf0 hf1 hl0 hl2;rw [hcb] at this;exact this
     have HCb:Hid (gu ⟨hv,fva,ha,fa⟩ lv tg asd gl=cb):=hcb;clear hcb;go_wp2_with fail;generalize wr.alloc (Obj.cells #[.bool true,.int .i64 lv,.int .u64 tg,.int .u64 asd,.bool gl,.int .u64 pt] 153)=v5 at n5 |-;refine (HCov.out v5).mono ?_;rintro e v6 ⟨rfl,n6⟩;have n56:=bst n5 n6;have hn6:=eW hn n56;have HO6:=hid (ag HO.out n56);clear g0 g1 g2 g3 g4 g5 c0 c1 c2 f0 f1 f2 f3 p0 p1 p2 n5 n6 HO hn;obtain ⟨⟨p0,p1,p2⟩,_,_,_⟩:=ay (aQ P4.out hn6 (by omega));cases cb
     ·have hst:bT ⟨hv,fva,ha,fa⟩ ⟨true,lv,tg,asd,gl,pt⟩=⟨true,lv,tg,asd,gl,pt⟩:=by simp [bT,HCb.out]
      go_wp2_with fail;go_roundw
      case rel=>exact ⟨k+1,by omega,by go_num,hn6,by rw [HNx.out,hst,HSm.out];exact HO6.out⟩
      case measure=>simp [intOf];omega
     ·have hst:bT ⟨hv,fva,ha,fa⟩ ⟨true,lv,tg,asd,gl,pt⟩=cO:=by simp [bT,HCb.out]
      have hcl:(az (bD ⟨hv,fva,ha,fa⟩ k es)).length=n*6:=by rw [eo,iy,HN.out]
      have q0:=aw HO6.out (k*6) _ (List.getElem?_eq_getElem (by omega));have q1:=aw HO6.out (k*6+1) _ (List.getElem?_eq_getElem (by omega));have q2:=aw HO6.out (k*6+2) _ (List.getElem?_eq_getElem (by omega));have q3:=aw HO6.out (k*6+3) _ (List.getElem?_eq_getElem (by omega));have q4:=aw HO6.out (k*6+4) _ (List.getElem?_eq_getElem (by omega));have q5:=aw HO6.out (k*6+5) _ (List.getElem?_eq_getElem (by omega));generalize (az (bD ⟨hv,fva,ha,fa⟩ k es))[k*6]'_=y0 at q0;generalize (az (bD ⟨hv,fva,ha,fa⟩ k es))[k*6+1]'_=y1 at q1;generalize (az (bD ⟨hv,fva,ha,fa⟩ k es))[k*6+2]'_=y2 at q2;generalize (az (bD ⟨hv,fva,ha,fa⟩ k es))[k*6+3]'_=y3 at q3;generalize (az (bD ⟨hv,fva,ha,fa⟩ k es))[k*6+4]'_=y4 at q4;generalize (az (bD ⟨hv,fva,ha,fa⟩ k es))[k*6+5]'_=y5 at q5;have r0:=aD HO6.out (k*6);have r1:=aD HO6.out (k*6+1);have r2:=aD HO6.out (k*6+2);have r3:=aD HO6.out (k*6+3);have r4:=aD HO6.out (k*6+4);have r5:=aD HO6.out (k*6+5);go_wp2_with fail;go_roundw
      case rel=>
       refine ⟨k+1,by omega,by go_num,ak (ak (ak (ak (ak (ak hn6 _ _) _ _) _ _) _ _) _ _) _ _,?_⟩;rw [HNx.out,hst,gZ _ _ _ (by rw [iy,HN.out];exact hlt)];exact ax (ax (ax (ax (ax (ax HO6.out _ _) _ _) _ _) _ _) _ _) _ _
      case measure=>simp [intOf];omega
   ·have hkn:k=n:=by omega
    subst hkn;have hfl:X=⟨sets,ways,es.map (bT ⟨hv,fva,ha,fa⟩)⟩:=by rw [<-HX.out];unfold dW;rw [if_pos HEb.out]
    have hsn:bD ⟨hv,fva,ha,fa⟩ k es=es.map (bT ⟨hv,fva,ha,fa⟩):=by
     have hq:=HN.out;unfold bD;rw [<-hq,List.take_length,List.drop_length,List.append_nil]
    obtain ⟨⟨d0,d1,d2⟩,e0,e1,e2⟩:=ay (aQ P3.out hn (by omega));go_wp2_with fail;refine bodyPost_ret (v:=.agg #[.int .i64 sets,.int .i64 ways,.slice (some ⟨g,0,none⟩) k cp]) (by simp [results,Tryz.results125,go_sem,d0,d1,d2]) rfl ⟨⟨_,rfl,?_⟩,fu (A4.grown hn (by have:=A4.size;omega) (fun q hq=>by cases hq;omega)) (by omega) _ _ _⟩;rw [hfl];refine ⟨g,cp,by simp only [List.length_map];rw [HN.out],?_⟩;simp only [List.length_map];rw [HN.out,<-hsn];exact aK (bX HO.out (gb3 wr (w.heap.size+1+1) _ _ _) (by omega)) (by omega)
end
section
attribute [local go_sem ↓] Go.wp_at_zero Go.wp_at_succ
theorem mq (a:Option Addr) (n cap:Nat) (left:Int) (w:World) (hn:(n:Int)<=9223372036854775807) (h0:0<=left) (h1:left<=1048576):
 Calls Tryz.prog 80 #[.slice a n cap,.int .i64 left] w fun e w'=>e=.returned (.int .i64 (if left<n then -1 else left-n))∧w'=w:=by
 by_cases h:left<n
 ·rw [if_pos h];go_enter Tryz.func80,Tryz.ntmps80;go_wp2_with fail;go_ret;exact ⟨rfl,rfl⟩
 ·rw [if_neg h];go_enter Tryz.func80,Tryz.ntmps80;go_wp2_with fail;go_ret;exact ⟨rfl,rfl⟩
theorem tW (v:Bool) (l t a:Int) (g:Bool) (p:Int) (w:World):
 Calls Tryz.prog 126 #[.agg #[.bool v,.int .i64 l,.int .u64 t,.int .u64 a,.bool g,.int .u64 p]] w fun e w'=>e=.returned (.agg #[.bool v,.int .i64 l,.int .u64 t,.int .u64 a,.bool g,.int .u64 p])∧Below w.heap.size w w':=by
 go_enter Tryz.func126,Tryz.ntmps126;go_wp2_with fail;exact bodyPost_ret (v:=.agg #[.bool v,.int .i64 l,.int .u64 t,.int .u64 a,.bool g,.int .u64 p]) (by simp [results,Tryz.results126,go_sem]) rfl ⟨rfl,(((Below.refl _ _).alloc nle _).alloc (by simp) _).alloc (by simp;omega) _⟩
theorem Ay (es:List EntM) (ys:List Value) (k n:Nat) (x:EntM) (hx:es[k]?=some x) (hy:ys.length=n*6) (hk:k<n) (hn:es.length=n) (h:∀t,t<k*6->ys[t]?=(az es)[t]?):
 ∀t,t<(k+1)*6->((((((ys.set (k*6) (.bool x.valid)).set (k*6+1) (.int .i64 x.level)).set (k*6+2) (.int .u64 x.tag)).set (k*6+3) (.int .u64 x.asid)).set (k*6+4) (.bool x.glob)).set (k*6+5) (.int .u64 x.pte))[t]?=(az es)[t]?:=by
 intro t ht;obtain ⟨hk',rfl⟩:=List.getElem?_eq_some_iff.1 hx;have hj:=fun j hj=>jV es k j hk' hj;by_cases h0:t<k*6
 ·simp only [List.getElem?_set];rw [if_neg (by omega),if_neg (by omega),if_neg (by omega),if_neg (by omega),if_neg (by omega),if_neg (by omega)];exact h t h0
 ·rcases (show t=k*6∨t=k*6+1∨t=k*6+2∨t=k*6+3∨t=k*6+4∨t=k*6+5 by omega) with rfl | rfl | rfl | rfl | rfl | rfl
  ·have h6:(az es)[k*6]?=(gk es[k])[0]?:=hj 0 (by omega);rw [h6,List.getElem?_set_ne (by omega),List.getElem?_set_ne (by omega),List.getElem?_set_ne (by omega),List.getElem?_set_ne (by omega),List.getElem?_set_ne (by omega),List.getElem?_set_self (by omega)];rfl
  ·rw [hj 1 (by omega),List.getElem?_set_ne (by omega),List.getElem?_set_ne (by omega),List.getElem?_set_ne (by omega),List.getElem?_set_ne (by omega),List.getElem?_set_self (by simp;omega)];rfl
  ·rw [hj 2 (by omega),List.getElem?_set_ne (by omega),List.getElem?_set_ne (by omega),List.getElem?_set_ne (by omega),List.getElem?_set_self (by simp;omega)];rfl
  ·rw [hj 3 (by omega),List.getElem?_set_ne (by omega),List.getElem?_set_ne (by omega),List.getElem?_set_self (by simp;omega)];rfl
  ·rw [hj 4 (by omega),List.getElem?_set_ne (by omega),List.getElem?_set_self (by simp;omega)];rfl
  ·rw [hj 5 (by omega),List.getElem?_set_self (by simp;omega)];rfl
theorem sT (a:Option Addr) (n cap:Nat) (es:List EntM) (w:World) (h:RowC w a n 6 (az es)) (hn:es.length=n) (hl:n<=1048576):
 Calls Tryz.prog 89 #[.slice a n cap] w fun e w'=>
  e=.returned (.slice (some ⟨w.heap.size,0,none⟩) n n)∧w'.ownsRow w.heap.size 153 6 (.slice (some ⟨w.heap.size,0,none⟩) n n) n (az es)∧Below w.heap.size w w':=by
 obtain ⟨i0,hi,hz0,hz1,hz2⟩:=info_parts Tryz.infoEnt;have HR:=hid h;clear h;go_enter Tryz.func89,Tryz.ntmps89;go_wp2_with (at_make;refine wpList_make_full _ rfl _ _ 33 rfl w.heap.size 153 i0 (.agg #[.bool false,.int .i64 0,.int .u64 0,.int .u64 0,.bool false,.int .u64 0]) 6 Tryz.underlying33 hi hz0 hz1 _ _ _ _ n rfl rfl rfl rfl ?b2 ?b3 nle ?_)
 case b2=>rw [hz2];omega
 case b3=>unfold maxLen;omega
 intro w0 hown0 hgrow0;have hn0:Below w.heap.size w w0:=(Below.refl _ _).grown hgrow0 nle (fun k h=>by cases h);have HO0:Hid _:=hown0;clear hown0 hgrow0;go_wp2_with fail;go_loopw [4] (fun i wr=>∃(k:Nat) (ys:List Value),k<=n∧i=.int .i64 k∧(∀t,t<k*6->ys[t]?=(az es)[t]?)∧wr.ownsRow w.heap.size 153 6 (.slice (some ⟨w.heap.size,0,none⟩) n n) n ys∧Below w.heap.size w wr) (fun i _=>n-(intOf i).toNat)
 case atStart=>exact ⟨0,_,Nat.zero_le _,rfl,fun t ht=>absurd ht (by omega),HO0.out,hn0⟩
 case round=>
  obtain ⟨k,ys,hk,rfl,hyz,hO,hb⟩:=hrel;have HO:=hid hO;have HZ:Hid (∀t,t<k*6->ys[t]?=(az es)[t]?):=hyz;have hyl:ys.length=n*6:=hO.1;clear hO hyz;by_cases hlt:k<n
  ·obtain ⟨x,hx⟩:∃x,es[k]?=some x:=⟨_,List.getElem?_eq_getElem (by omega)⟩;obtain ⟨b,off,rfl,hbb⟩:∃b off,a=some ⟨b,off,none⟩∧b<w.heap.size:=by
    rcases HR.out.2 with h | ⟨b,off,h,h2,_⟩
    ·omega
    ·exact ⟨b,off,h,h2⟩
   have CE:∀j u,j<6->(gk x)[j]?=some u->wr.cell? ⟨b,off+(k*6+j),none⟩=some u:=fun j u hj hu=>
    Below.cell2 hb (dy HR.out hn k x hx j u hj hu) hbb
   obtain ⟨vv,lv,tg,asd,gl,pt⟩:=x;have g0:wr.cell? ⟨b,off+k*6,none⟩=some (.bool vv):=CE 0 _ (by omega) rfl;have g1:wr.cell? ⟨b,off+k*6+1,none⟩=some (.int .i64 lv):=CE 1 _ (by omega) rfl;have g2:wr.cell? ⟨b,off+k*6+2,none⟩=some (.int .u64 tg):=CE 2 _ (by omega) rfl;have g3:wr.cell? ⟨b,off+k*6+3,none⟩=some (.int .u64 asd):=CE 3 _ (by omega) rfl;have g4:wr.cell? ⟨b,off+k*6+4,none⟩=some (.bool gl):=CE 4 _ (by omega) rfl;have g5:wr.cell? ⟨b,off+k*6+5,none⟩=some (.int .u64 pt):=CE 5 _ (by omega) rfl;have HX:Hid (es[k]?=some ⟨vv,lv,tg,asd,gl,pt⟩):=hx;clear CE hx;go_wp2_with fail;refine (tW vv lv tg asd gl pt wr).mono ?_;rintro e v2 ⟨rfl,n2⟩;have O2:Hid (v2.ownsRow w.heap.size 153 6 (.slice (some ⟨w.heap.size,0,none⟩) n n) n ys):=ag HO.out n2;have A2:=bst hb n2;clear g0 g1 g2 g3 g4 g5 HO hb n2;have y0:=aw O2.out (k*6) _ (List.getElem?_eq_getElem (by omega));have y1:=aw O2.out (k*6+1) _ (List.getElem?_eq_getElem (by omega));have y2:=aw O2.out (k*6+2) _ (List.getElem?_eq_getElem (by omega));have y3:=aw O2.out (k*6+3) _ (List.getElem?_eq_getElem (by omega));have y4:=aw O2.out (k*6+4) _ (List.getElem?_eq_getElem (by omega));have y5:=aw O2.out (k*6+5) _ (List.getElem?_eq_getElem (by omega));generalize ys[k*6]'_=z0 at y0;generalize ys[k*6+1]'_=z1 at y1;generalize ys[k*6+2]'_=z2 at y2;generalize ys[k*6+3]'_=z3 at y3;generalize ys[k*6+4]'_=z4 at y4;generalize ys[k*6+5]'_=z5 at y5;have r0:=aD O2.out (k*6);have r1:=aD O2.out (k*6+1);have r2:=aD O2.out (k*6+2);have r3:=aD O2.out (k*6+3);have r4:=aD O2.out (k*6+4);have r5:=aD O2.out (k*6+5);go_wp2_with fail;go_roundw
   case rel=>
    refine ⟨k+1,_,by omega,by go_num,Ay es ys k n _ HX.out hyl hlt hn HZ.out,ax (ax (ax (ax (ax (ax O2.out _ _) _ _) _ _) _ _) _ _) _ _,A2.grown (ak (ak (ak (ak (ak (ak (au v2 (some w.heap.size)) _ _) _ _) _ _) _ _) _ _) _ _) A2.size (fun q hq=>by cases hq;omega)⟩
   case measure=>simp [intOf];omega
  ·have hyy:ys=az es:=by
    apply List.ext_getElem?;intro t;by_cases ht:t<n*6
    ·exact HZ.out t (by omega)
    ·rw [List.getElem?_eq_none (by omega),List.getElem?_eq_none (by rw [eo];omega)]
   rw [hyy] at HO;clear HZ hyl hyy;go_wp2_with fail;go_ret;exact ⟨rfl,HO.out,hb⟩
theorem nf (sets ways:Int) (a:Option Addr) (n cap:Nat) (es:List EntM) (w:World) (h:RowC w a n 6 (az es)) (hn:es.length=n) (hl:n<=1048576):
 Calls Tryz.prog 52 #[.agg #[.int .i64 sets,.int .i64 ways,.slice a n cap]] w fun e w'=>(∃x,e=.returned x∧TlbOwn w.heap.size w' x ⟨sets,ways,es⟩)∧Below w.heap.size w w':=by
 have n1:=(((Below.refl w.heap.size w).alloc nle (Obj.cells #[.int .i64 sets,.int .i64 ways,.slice a n cap] 27)).alloc (by simp) (Obj.cells #[.int .i64 0,.int .i64 0,.slice none 0 0] 35)).alloc (by simp;omega) (Obj.cells #[.int .i64 sets,.int .i64 ways,.slice none 0 0] 35);have HR:=hid (h.keep n1);have H2:Hid ((((w.alloc (Obj.cells #[.int .i64 sets,.int .i64 ways,.slice a n cap] 27)).alloc (Obj.cells #[.int .i64 0,.int .i64 0,.slice none 0 0] 35)).alloc (Obj.cells #[.int .i64 sets,.int .i64 ways,.slice none 0 0] 35)).heap[w.heap.size+1]?=some (.cells #[.int .i64 0,.int .i64 0,.slice none 0 0] 35 (0,0))):=by
  show _=_;rw [heap_alloc_old _ _ (by simp)];have:=heap_alloc_new (w.alloc (Obj.cells #[.int .i64 sets,.int .i64 ways,.slice a n cap] 27)) (Obj.cells #[.int .i64 0,.int .i64 0,.slice none 0 0] 35);simp only [World.size_alloc] at this;exact this
 have H3:Hid ((((w.alloc (Obj.cells #[.int .i64 sets,.int .i64 ways,.slice a n cap] 27)).alloc (Obj.cells #[.int .i64 0,.int .i64 0,.slice none 0 0] 35)).alloc (Obj.cells #[.int .i64 sets,.int .i64 ways,.slice none 0 0] 35)).heap[w.heap.size+1+1]?=some (.cells #[.int .i64 sets,.int .i64 ways,.slice none 0 0] 35 (0,0))):=by
  have:=heap_alloc_new ((w.alloc (Obj.cells #[.int .i64 sets,.int .i64 ways,.slice a n cap] 27)).alloc (Obj.cells #[.int .i64 0,.int .i64 0,.slice none 0 0] 35)) (Obj.cells #[.int .i64 sets,.int .i64 ways,.slice none 0 0] 35);simp only [World.size_alloc] at this;exact this
 have l1:w.heap.size+1+1<(((w.alloc (Obj.cells #[.int .i64 sets,.int .i64 ways,.slice a n cap] 27)).alloc (Obj.cells #[.int .i64 0,.int .i64 0,.slice none 0 0] 35)).alloc (Obj.cells #[.int .i64 sets,.int .i64 ways,.slice none 0 0] 35)).heap.size:=by simp
 clear h;go_enter Tryz.func52,Tryz.ntmps52;go_wp2_with fail;generalize (((w.alloc (Obj.cells #[.int .i64 sets,.int .i64 ways,.slice a n cap] 27)).alloc (Obj.cells #[.int .i64 0,.int .i64 0,.slice none 0 0] 35)).alloc (Obj.cells #[.int .i64 sets,.int .i64 ways,.slice none 0 0] 35))=v1 at n1 HR H2 H3 l1 |-;refine (sT a n cap es v1 HR.out hn hl).mono ?_;rintro e v2 ⟨rfl,o2,n2⟩;have O2:=hid o2;have A2:=bst n1 n2;have K2:=ab H2 n2;have K3:=ab H3 n2;obtain ⟨⟨d0,d1,d2⟩,e0,e1,e2⟩:=ay K2.out;obtain ⟨⟨p0,p1,p2⟩,f0,f1,f2⟩:=ay K3.out;clear o2 n1 n2 HR H2 H3;go_wp2_with fail;refine bodyPost_ret (v:=.agg #[.int .i64 sets,.int .i64 ways,.slice (some ⟨v1.heap.size,0,none⟩) n n]) (by simp [results,Tryz.results52,go_sem,d0,d1,d2]) rfl ⟨⟨_,rfl,v1.heap.size,n,by simp only;rw [hn],?_⟩,fu (A2.setCell (p:=⟨w.heap.size+1+1,2,none⟩) (by show w.heap.size<=w.heap.size+1+1;omega) _) (by omega) _ _ _⟩;simp only;rw [hn];exact aK (bX (bX O2.out (ak (au v2 (some (w.heap.size+1+1))) 2 _) l1) (gb3 _ (w.heap.size+1) _ _ _) (by omega)) (by omega)
theorem nh (sets ways:Int) (a:Option Addr) (n cap:Nat) (left:Int) (w:World) (hn:(n:Int)<=9223372036854775807) (h0:0<=left) (h1:left<=1048576):
 Calls Tryz.prog 46 #[.agg #[.int .i64 sets,.int .i64 ways,.slice a n cap],.int .i64 left] w fun e w'=>e=.returned (.int .i64 (if left<n then -1 else left-n))∧Below w.heap.size w w':=by
 have n1:=(Below.refl w.heap.size w).alloc nle (Obj.cells #[.int .i64 sets,.int .i64 ways,.slice a n cap] 27);by_cases h:left<n
 ·rw [if_pos h];have HS:Hid (∀w,Calls Tryz.prog 80 #[.slice a n cap,.int .i64 left] w fun e w'=>e=.returned (.int .i64 (-1))∧w'=w):=fun w=>by
   have:=mq a n cap left w hn h0 h1;rw [if_pos h] at this;exact this
  clear h;go_enter Tryz.func46,Tryz.ntmps46;go_wp2_with (go_at_call 80;refine (HS.out _).mono ?_;rintro e w' ⟨rfl,rfl⟩);go_ret;exact ⟨rfl,n1⟩
 ·rw [if_neg h];have HS:Hid (∀w,Calls Tryz.prog 80 #[.slice a n cap,.int .i64 left] w fun e w'=>e=.returned (.int .i64 (left-n))∧w'=w):=fun w=>by
   have:=mq a n cap left w hn h0 h1;rw [if_neg h] at this;exact this
  have h':decide (left-(n:Int)<0)=false:=by rw [decide_eq_false_iff_not];omega
  clear h;go_enter Tryz.func46,Tryz.ntmps46;go_wp2_with (go_at_call 80;refine (HS.out _).mono ?_;rintro e w' ⟨rfl,rfl⟩);go_ret;exact ⟨rfl,n1⟩
end
end Go.Proofs.YtgnnmgfgfihljaaGreat
