import Derived.Test.YtkenjknmfhoppaaGreatSk32
import Derived.RangeFuncNested
import Derived.RangeFuncCalls
import Derived.OrdersIn
import Derived.TacticsIn
import Derived.RangeFuncBound
import Derived.RangeFuncLeaves
import Derived.Shelf.Abstract
import Derived.Shelf.RegionOpen
import Derived.OwnWalkIn
import Derived.TacticsInMore
import Derived.LoopNIn
import Derived.LoopIn
namespace Go.Proofs.YtkenjknmfhoppaaGreat
open Go.RowKit
set_option linter.unusedVariables false
set_option maxHeartbeats 6400000
set_option maxRecDepth 20000
def FP (w:World) (O X:Nat->Prop) (m:MP) (h:HartM) (ol:List (Nat × Int)) (ps:List bM) (kind val:Int) (e:Ending) (w':World):Prop:=
 ∃mem' ol',MNext w O X m (eD h mem') ol' w'∧ia ol' mem'=ia ol h.mem∧
  ((gJ h.mem ps=none∧e=.returned (.tuple #[])∧mem'=ja h.mem ps (cL val (bV ps)))∨(∃v,gJ h.mem ps=some v∧e=.panicked [lK (bP kind) v]))
theorem Gq (x:Int) (n:Nat):x/256^n/256=x/256^(n+1):=by
 rw [Int.ediv_ediv_of_nonneg (Int.le_of_lt (Int.pow_pos (by omega))),Int.pow_succ]
theorem CB {x:Int} (h:inU x) (n:Nat):inU (x/256^n):=by
 have hp:(0:Int)<256^n:=Int.pow_pos (by omega);exact ⟨Int.ediv_nonneg h.1 (by omega),Int.le_trans (Int.ediv_le_self _ h.1) h.2⟩
theorem Bf (mem:List Int) (a:List bM) (p:bM) (x:Int):ja mem (a++[p]) (cL x (bV (a++[p])))=put (ja mem a (cL x (bV a))) p.2.2.toNat (cL (x/256^bV a) p.2.1.toNat):=by
 have e:bV (a++[p])=bV a+p.2.1.toNat:=by rw [ez];rfl
 rw [e,rj mem a mem [p] x p.2.1.toNat];simp only [ja];rw [List.take_of_length_le (by rw [fX];exact nle)]
theorem Ag {O X:Nat->Prop} {m:MP} {ov:Value} {h:HartM} {ol:List (Nat × Int)} (kind val:Int) (ps:List bM) (g n:Nat) (w:World) (k:MW w O X m ov h ol) (hn:ps.length=n) (hg:w.heap[g]?=some (.cells (pI kind ps).toArray 257 (0,0))) (hgo:¬O g) (hok:ep ps) (hsz:bV ps<=8) (hn2:n<=2) (hol:ol.length+bV ps<=16) (hv:inU val):
 Calls Tryz.prog 116 #[PT m.b 0,SL g n n,VU val] w fun e w'=>FP w O X m h ol ps kind val e w':=by
 have HK:Hid _:=k;have HG:Hid _:=hg;have HN:Hid _:=hn;have HOk:Hid _:=hok;have HV:Hid _:=hv;have HOl:Hid _:=hol;have HSz:Hid _:=hsz;have hbl:=k.lt;have hgl:=(hpl hg);have HGo:Hid _:=hgo;clear k hg hn hok hv hsz hgo hol;go_enter Tryz.func116,Tryz.ntmps116;go_wp2;go_loopw [2,11] (fun vv iv wr=>∃(j:Nat) (O1:Nat->Prop) (ov1:Value) (mem1:List Int) (ol1:List (Nat × Int)),j<=n∧vv=VU (val/256^bV (ps.take j))∧iv=VI j∧tk h.mem (ps.take j)∧MW wr O1 X m ov1 (eD h mem1) ol1∧Kp O w wr∧(∀i,i<w.heap.size->O1 i->O i)∧(∀i,X i->wr.heap[i]?=w.heap[i]?)∧
  mem1=ja h.mem (ps.take j) (cL val (bV (ps.take j)))∧mem1.length=h.mem.length∧ia ol1 mem1=ia ol h.mem∧ol1.length=ol.length+bV (ps.take j)) (fun _ iv _=>n-(intOf iv).toNat)
 case atStart=>exact ⟨0,O,ov,h.mem,ol,Nat.zero_le _,by simp [bV],rfl,fun p hp=>by simp at hp,HK.out,Kp.refl O w,fun _ _ h=>h,fun _ _=>rfl,rfl,rfl,rfl,by simp [bV]⟩
 case round=>
  rename World=>wa;obtain ⟨j,O1,ov1,mem1,ol1,hj,rfl,rfl,hi,hk1,hkp,ho1,hx1,hm1,hml,hu1,hl1⟩:=hrel;have HI:Hid _:=hi;have HK1:Hid _:=hk1;have HKp:Hid _:=hkp;have HO1:Hid _:=ho1;have HX1:Hid _:=hx1;have HM1:Hid _:=hm1;have HMl:Hid _:=hml;have HU1:Hid _:=hu1;have HL1:Hid _:=hl1;clear hi hk1 hkp ho1 hx1 hm1 hml hu1 hl1;by_cases hjn:j<n
  ·obtain ⟨p,hp⟩:∃p,ps[j]?=some p:=⟨ps[j]'(by rw [HN.out];exact hjn),geg _⟩;have HPj:Hid _:=hp;obtain ⟨c0,c1,c2,c3⟩:=sV kind ps j p hp;have HGr:=hid (HKp.out.heap HG.out HGo.out);have d0:=ab HGr.out (j*4) (v:=VI kind) (by simpa using c0);have d1:=ab HGr.out (j*4+1) (v:=VU p.1) (by simpa using c1);have d2:=ab HGr.out (j*4+2) (v:=VU p.2.2) (by simpa using c2);have d3:=ab HGr.out (j*4+3) (v:=VU p.2.1) (by simpa using c3);have hpk:=HOk.out p (List.mem_of_getElem? hp);have HSj:Hid (bV (ps.take j)+p.2.1.toNat<=8):=by
    have:=sW (ps:=ps) (j+1);rw [jD hp,ez] at this;simp only [bV] at this;have:=HSz.out;show _<=_;omega
   clear c0 c1 c2 c3 hp;obtain ⟨va,size,pa⟩:=p;obtain ⟨hva,⟨hs1,hs2⟩,hpa0,hpa1⟩:=hpk;simp only at d0 d1 d2 d3 hs1 hs2 hpa0 hpa1 hva HSj;obtain ⟨v1,Ev1,F⟩:=ax1 wa #[VI kind,VU va,VU pa,VU size] 257;go_wp2_with fail;rw [Ev1.out];clear Ev1;obtain ⟨f1,f2,n1⟩:=F;have HF1:Hid _:=f1;clear f1 d0 d1 d2 d3;refine (sU kind va pa size v1 (HK1.out.low n1) ⟨hpa0,hpa1⟩ ⟨by omega,by omega⟩).mono ?_;rintro e v2 ⟨he,n2⟩;have HN12:=hid (bst n1 n2);have HF2:=ah HF1 n2;have K2:=hid (HK1.out.low HN12.out);have hlm:(eD h mem1).mem.length=h.mem.length:=HMl.out;rw [hlm] at he;cases hins:fR h.mem.length pa size
   ·rw [hins] at he;simp only [Bool.false_eq_true,if_false] at he;subst he;have HIn:Hid _:=hins;clear hins;go_wp2_with fail;refine ⟨rfl,mem1,ol1,MNext.trans HKp.out HO1.out HX1.out ⟨O1,ov1,K2.out,Kp.of_below O1 HN12.out,fun _ _ h=>h,fun i hi=>HN12.out.block i (HK1.out.xo i hi).2⟩,HU1.out,.inr ⟨va,?_,rfl⟩⟩;have e:ps=ps.take j++(va,size,pa)::ps.drop (j+1):=by
     obtain ⟨hjl,hjp⟩:=List.getElem?_eq_some_iff.1 HPj.out;rw [<-hjp,<-List.drop_eq_getElem_cons hjl,List.take_append_drop]
    rw [e,rK HI.out HIn.out]
   ·rw [hins] at he;simp only [if_true] at he;subst he;have HIn:Hid _:=hins;clear hins;obtain ⟨sn,hsn⟩:∃sn:Nat,size=sn:=⟨size.toNat,by omega⟩;obtain ⟨pn,hpn⟩:∃pn:Nat,pa=pn:=⟨pa.toNat,by omega⟩;subst hsn hpn;have hin2:=HIn.out;simp only [fR,decide_eq_true_eq] at hin2;have hm4:=HK.out.len;rw [Int.toNat_natCast] at HSj;obtain ⟨S,hS⟩:∃S,bV (ps.take j)=S:=⟨_,rfl⟩;have HS:Hid _:=hS;rw [hS] at HSj HL1 HM1 |-;clear hS;obtain ⟨x,hx⟩:∃x,val/256^S=x:=⟨_,rfl⟩;have HX:Hid _:=hx;have hxb:inU x:=by rw [<-hx];exact CB HV.out S
    rw [hx];clear hx;have b3:=ab HF2.out 3 (v:=VU sn) rfl;have hSj:=HSj.out;have hl1:=HL1.out;have hol:=HOl.out;have hss:=sW (ps:=ps) (j+1);rw [jD HPj.out,ez,HS.out] at hss;simp only [bV,Int.toNat_natCast] at hss;have HSt:Hid (S+sn<=bV ps):=by show _<=_;omega
    have hbx:¬O1 wa.heap.size:=fun hh=>by have:=HK1.out.obd _ hh;omega
    clear hlm hss;go_wp2;go_loopw [2,20] (fun vv iv wr=>∃(i:Nat) (O2:Nat->Prop) (ov2:Value) (mem2:List Int) (ol2:List (Nat × Int)),i<=sn∧vv=VU (x/256^i)∧iv=VU i∧MW wr O2 X m ov2 (eD h mem2) ol2∧Kp O1 v2 wr∧(∀i,i<v2.heap.size->O2 i->O1 i)∧(∀i,X i->wr.heap[i]?=v2.heap[i]?)∧
     mem2=put mem1 pn (cL x i)∧mem2.length=h.mem.length∧ia ol2 mem2=ia ol h.mem∧ol2.length=ol1.length+i) (fun _ iv _=>sn-(intOf iv).toNat)
    case atStart=>exact ⟨0,O1,ov1,mem1,ol1,Nat.zero_le _,by simp,rfl,K2.out,Kp.refl O1 v2,fun _ _ h=>h,fun _ _=>rfl,by simp [cL,put],HMl.out,HU1.out,rfl⟩
    case round=>
     obtain ⟨i,O2,ov2,mem2,ol2,hi,rfl,rfl,hk2,hkp2,ho2,hx2,hm2,hml2,hu2,hl2⟩:=hrel;have HK2:Hid _:=hk2;have HKp2:Hid _:=hkp2;have HO2:Hid _:=ho2;have HX2:Hid _:=hx2;have HM2:Hid _:=hm2;have HMl2:Hid _:=hml2;have HU2:Hid _:=hu2;have HL2:Hid _:=hl2;clear hk2 hkp2 ho2 hx2 hm2 hml2 hu2 hl2;by_cases hil:i<sn
     ·have HF3:Hid _:=Kp.hid HF2 HKp2.out hbx;have cp:=ab HF3.out 2 (v:=VU pn) rfl;have hxi:=CB hxb i;obtain ⟨xi,hxe⟩:∃xi,x/256^i=xi:=⟨_,rfl⟩;have HXi:Hid _:=hxe;rw [hxe] at hxi |-;clear hxe;have hwr:IntKind.u64.wrap ((pn:Int)+(i:Int))=((pn+i:Nat):Int):=by rw [IntKind.wrap_u64];omega
      obtain ⟨hxi0,hxi1⟩:=hxi;go_upto_region 7 with fail;refine dq 8 (by kernel_rfl) (by kernel_rfl) ?_;simp only [List.take_succ_cons,List.take_zero,List.drop_succ_cons,List.drop_zero];repeat still_step
      refine wpStill_nil ?_;have Dd:=bdr wr;have hml2:=HMl2.out;have hl2:=HL2.out;have hst:=HSt.out;go_wp2_with fail;refine (Bd (pn+i) xi wr.drew (HK2.out.low Dd) (by show pn+i<mem2.length;omega) (by omega) ⟨hxi0,hxi1⟩).mono ?_;rintro e v3 ⟨rfl,O3,ov3,k3,kp3,o3,x3⟩;have HK3:=hid k3;have HKp3:=hid ((HKp2.out.trans (Kp.of_below O1 Dd)).trans' kp3 (fun q hq hh=>HO2.out q hq hh));have HO3:=hid fun q (hq:q<v2.heap.size) (hh:O3 q)=>HO2.out q hq (o3 q (ltl hq HKp2.out.size) hh);have HX3:=hid fun q (hq:X q)=>(x3 q hq).trans (HX2.out q hq);have HMs:Hid (mem2.set (pn+i) (xi%256)=put mem1 pn (cL x (i+1))):=by
       show _=_;rw [HM2.out,<-HXi.out];exact Dr mem1 pn i x (by rw [HMl.out];omega)
      have HSh:Hid (xi/256=x/256^(i+1)):=by
       show _=_;rw [<-HXi.out,Gq]
      clear k3 kp3 o3 x3 cp;go_wp2;go_roundw
      case rel=>
       refine ⟨i+1,O3,ov3,_,_,by omega,?_,by go_num,HK3.out,HKp3.out,HO3.out,HX3.out,HMs.out,by rw [List.length_set];exact HMl2.out,?_,by simp;omega⟩
       ·rw [HSh.out]
       ·rw [zI];exact HU2.out
      case measure=>simp [intOf];omega
     ·have hie:i=sn:=by omega
      subst hie;have hl2:=HL2.out;go_wp2;go_roundw
      case rel=>
       have e1:=jD HPj.out;have hs2:=HN12.out.size;have hsw:=HKp.out.size;refine ⟨j+1,O2,ov2,mem2,ol2,by omega,?_,by go_num,?_,HK2.out,(HKp.out.trans (Kp.of_below O HN12.out)).trans' HKp2.out (fun q hq hh=>HO1.out q hq hh),fun q hq hh=>HO1.out q hq (HO2.out q (by omega) hh),fun q hq=>((HX2.out q hq).trans (HN12.out.block q (HK1.out.xo q hq).2)).trans (HX1.out q hq),?_,HMl2.out,HU2.out,?_⟩
       ·rw [e1,ez,HS.out,<-HX.out];simp only [bV,Int.toNat_natCast,Nat.add_zero];rw [Int.pow_add,<-Int.ediv_ediv_of_nonneg (Int.le_of_lt (Int.pow_pos (by omega)))]
       ·rw [e1];intro q hq;rcases List.mem_append.1 hq with hq | hq
        ·exact HI.out q hq
        ·rw [List.mem_singleton] at hq;subst hq;exact HIn.out
       ·rw [e1,Bf,HS.out,HX.out,<-HM1.out,HM2.out];simp only [Int.toNat_natCast]
       ·rw [e1,ez,HS.out];simp only [bV,Int.toNat_natCast];omega
      case measure=>simp [intOf];omega
  ·have hje:j=n:=by omega
   subst hje;go_wp2;go_end0;have e:=List.take_of_length_le (by rw [HN.out];exact nle);have hI:=HI.out;have hM:=HM1.out;rw [e] at hI hM;exact ⟨mem1,ol1,⟨O1,ov1,HK1.out,HKp.out,HO1.out,HX1.out⟩,HU1.out,.inl ⟨pV hI,rfl,hM⟩⟩
section
variable {P:Program} {ops:Array Oper} {md:Region.Mode} {C:World->Prop} {l m:Nat}
def qi (ops:Array Oper):Bool:=ops.all fun o=>match o.op with | .defer _=>false | _=>true
theorem qj (h:qi ops=true) {i:Nat} {o:Oper} (ho:ops[i]?=some o):∀c,o.op≠.defer c:=by
 intro c hc;have hm:=Array.mem_of_getElem? ho;have:=Array.all_eq_true_iff_forall_mem.1 h o hm;rw [hc] at this;cases this
theorem yR {i:Nat} {a:Act} {K:Act->Prop} {K':Act->World->Prop} {Q:Exit->Act->World->Prop} {w:World} (nd:qi ops=true) (hC:C w) (h:∀a w',C w'->K a->K' a w') (hh:qOp P ops C i K a):wpOpIn (Fence.wide.inRound l) m P ops Q i K' a w:=by
 unfold qOp at hh;unfold wpOpIn;cases ho:ops[i]? with
 | none=>rw [ho] at hh;exact h _ _ hC hh
 | some o=>
  rw [ho] at hh;simp only at hh |-;by_cases hw:Region.wanted o (yielded ops a.tmps)=true
  ·rw [if_pos hw] at hh |-;obtain ⟨v,h1,h2⟩:=hh;have h3:=h1 w hC;refine ⟨fun _ _=>trivial,?_⟩;rw [Fence.inRound_round,Oper.semAt_some l _ o (qj nd ho)];unfold Oper.quietAt at h3;generalize (execOp a.eval o).run P w=r at h3 |-;cases r with
   | halt x w'=>exact h3.elim
   | ok nx w'=>
    cases nx <;> simp only [Oper.quietUpon] at h3
    case value u=>
     obtain ⟨e1,e2⟩:=h3;subst e1 e2;exact h _ _ hC h2
    case skip=>
     obtain ⟨e1,e2⟩:=h3;subst e1 e2;exact h _ _ hC h2
    case enter f args=>
     obtain ⟨e1,hc⟩:=h3;subst e1;refine ⟨fun hd=>by simp [Fence.wide] at hd,?_⟩;refine (CallsIn.inRound l (callsIn_wide.2 hc)).mono ?_;rintro e w'' ⟨rfl,hw''⟩;exact h _ _ hw'' h2
  ·rw [if_neg hw] at hh |-;exact ⟨fun _ _=>trivial,h _ _ hC hh⟩
theorem HeadQ.anyIn {n g:Nat} {L:Array Bool->Act->Prop} {Q:Exit->Act->World->Prop} (nd:qi ops=true) (hL:∀s a w,C w->L s a->wpAnyIn (Fence.wide.inRound l) m P md ops Q g s a w):
 ∀(f:Nat) (s:Array Bool) (a:Act) (w:World),C w->HeadQ P md ops C n L f s a->wpAnyIn (Fence.wide.inRound l) m P md ops Q (f+g) s a w
 | 0,s,a,w,hw,h=>by
  rw [Nat.zero_add];exact hL s a w hw h
 | f+1,s,a,w,hw,h=>by
  have e:f+1+g=(f+g)+1:=by omega
  rw [e];exact ⟨fun h0=>(h.1 h0).elim,fun i hi=>yR nd hw (fun a' w' hw' h'=>HeadQ.anyIn nd hL f _ a' w' hw' h') (h.2 i hi).2⟩
theorem qN {id:Nat} {Q:Exit->Act->World->Prop} {a:Act} {w:World} {lo:List Oper} (n:Nat) (hm:P.follows .mixedOrders=true) (hB:Region.lexTailB .any lo.toArray n=true) (hz:lo.length=n+1) (nd:qi lo.toArray=true) (hC:C w.drew)
 (h:wpQuiet P lo.toArray C (fun a'=>∀w',C w'->wpOpIn (Fence.wide.inRound l) m P lo.toArray Q n (fun a'' w''=>Q .normal a'' w'') a' w') (lo.take n) a):(Code.region id lo.toArray true).wpIn (Fence.wide.inRound l) m P Q a w:=by
 simp only [Region.lexTailB,Bool.and_eq_true,decide_eq_true_eq] at hB;obtain ⟨⟨⟨⟨ns,hn⟩,hs⟩,hc⟩,hx⟩:=hB;have e1:(lo.take n).length=n:=by simp;omega
 have e2:lo.toArray.size-n=1:=by simp;omega
 have i0:HeadInv .any lo.toArray n (Array.replicate lo.toArray.size false):=
  ⟨by simp,fun j oj _ hl=>(by rw [getD_replicate_false] at hl;cases hl),fun t _ ht=>getD_in (by simpa using ht) (getD_replicate_false _ _)⟩
 have hl:=HeadQ.lex (P:=P) (C:=C) (g:=lo.toArray.size-n) ns hs hc hn (lo.take n) 0 (Array.replicate lo.toArray.size false) a (fun j hj=>by
  rw [e1] at hj;simp [hj]) (by rw [e1];omega) i0 (by rw [e1];exact hx) h
 rw [e1,e2] at hl;refine wpIn_region_any hm ?_;have:=HeadQ.anyIn (l:=l) (m:=m) (Q:=Q) (g:=1) (C:=C) nd (fun s a' w' hw' hL=>by
  obtain ⟨h1,h2⟩:=hL;simp only [Region.seqB,Bool.and_eq_true,decide_eq_true_eq,List.isEmpty_iff] at h1;refine ⟨fun h0=>(by rw [h1.1] at h0;cases h0),fun i hi=>?_⟩;rw [h1.1] at hi;have hi':i=n:=by simpa using hi
  subst hi';exact wpOpIn_mono (fun a'' w'' hq=>⟨h1.2,hq⟩) (h2 w' hw')) n _ a w.drew hC hl
 rw [show n+1=lo.toArray.size by simp;omega] at this;exact this
theorem BZ {Q:Exit->Act->World->Prop} {K:Act->World->Prop} {a:Act} {w:World} (i:Nat) {o:Oper} (hi:ops[i]?=some o) (hg:o.guard=none) (nd:qi ops=true) {f:FuncId} {args:Array Value} (he:(execOp a.eval o).run P w=.ok (.enter f args) w)
 (h:Calls P f args w fun e w'=>∃x,e=.returned x∧K (a.put o.dst x) w'):wpOpIn (Fence.wide.inRound l) m P ops Q i K a w:=by
 unfold wpOpIn;simp only [hi];rw [if_pos (by simp [Region.wanted,hg])];refine ⟨fun _ _=>trivial,?_⟩;rw [Fence.inRound_round,Oper.semAt_some l _ o (qj nd hi),he];refine ⟨fun hd=>by simp [Fence.wide] at hd,?_⟩;refine (CallsIn.inRound l (callsIn_wide.2 h)).mono ?_;rintro e w' ⟨x,rfl,hx⟩;exact hx
end
section
open Go.RowKit Go.Shelf
attribute [local go_sem] Oper.semAt_some
abbrev td (L:Nat):={ o:Nat × Nat × Int//o.2.1<L∧0<=o.2.2∧o.2.2<=255 }
def Ez {L:Nat} (x:td L):Array Value:=#[VI (x.1.1:Int),.agg #[VU (x.1.2.1:Int),VU x.1.2.2]]
def KpB (B g:Nat) (W W':World):Prop:=W.heap.size<=W'.heap.size∧∀i,i<B->i≠g->W'.heap[i]?=W.heap[i]?
theorem KpB.refl (B g:Nat) (W:World):KpB B g W W:=⟨nle,fun _ _ _=>rfl⟩
theorem KpB.trans {B g:Nat} {a b c:World} (h:KpB B g a b) (k:KpB B g b c):KpB B g a c:=⟨Nat.le_trans h.1 k.1,fun i hi hn=>(k.2 i hi hn).trans (h.2 i hi hn)⟩
theorem KpB.cell {B g:Nat} {W W':World} (h:KpB B g W W') {b o:Nat} {x:Option Value} (hc:W.cell? (AD b o)=x) (hb:b<B) (hg:b≠g):W'.cell? (AD b o)=x:=(World.cell?_of_block (h.2 b hb hg)).trans hc
def Dn (L:Nat) (ol:List (Nat × Int)) (zs:List (td L)):Prop:=
 zs.length=ol.length∧∀(j:Nat) (x:td L),zs[j]?=some x->x.1.1=ol.length-1-j∧ol[ol.length-1-j]?=some x.1.2
theorem BE {L:Nat}:∀(ol:List (Nat × Int)),(∀o∈ol,o.1<L∧0<=o.2∧o.2<=255)->∃zs:List (td L),Dn L ol zs:=by
 intro ol h;refine ⟨List.pmap (fun o ho=>⟨o,ho⟩) ((List.range ol.length).map fun j=>(ol.length-1-j,ol[ol.length-1-j]?.getD (0,0))) ?_,by rw [List.length_pmap,List.length_map,List.length_range],?_⟩
 ·intro o ho;obtain ⟨j,hj,rfl⟩:=List.mem_map.1 ho;have hj':=List.mem_range.1 hj;have hl:ol.length-1-j<ol.length:=by omega
  rw [geg hl];exact h _ (List.getElem_mem hl)
 ·intro j x hx;obtain ⟨hj,hx'⟩:=List.getElem?_eq_some_iff.1 hx;simp only [List.length_pmap,List.length_map,List.length_range] at hj;have hl:ol.length-1-j<ol.length:=by omega
  simp only [List.getElem_pmap,List.getElem_map,List.getElem_range] at hx';rw [<-hx'];simp [hl]
theorem Ao:∀(ol:List (Nat × Int)) (j:Nat) (o:Nat × Int),ol[j]?=some o->(nQ ol)[j*2]?=some (VU o.1)∧(nQ ol)[j*2+1]?=some (VU o.2)
 | [],j,o,h=>by simp at h
 | q::ol,0,o,h=>by
  simp only [List.getElem?_cons_zero,Option.some.injEq] at h;subst h;exact ⟨rfl,rfl⟩
 | q::ol,j+1,o,h=>by
  have ih:=Ao ol j o (by simpa using h);rw [show (j+1)*2=j*2+1+1 by omega];simp only [nQ];rw [show j*2+1+1+1=(j*2+1)+1+1 by omega];simpa only [List.getElem?_cons_succ] using ih
set_option maxRecDepth 100000 in
theorem EA (F:Fence) (n:Nat) (h7:F.fn 140) (hro:F.round=none) (hn:1<=n) (l Bs B g gm len cap L:Nat) (oa:Option Addr) (hoa:0<len->oa=some (AD g 0)) (ol:List (Nat × Int)) (zs:List (td L)) (hz:Dn L ol zs) (hlen:ol.length=len) (hl16:len<=16) (hgB:g<B) (hgg:g≠gm) (hBB:Bs<B) (hBg:Bs≠gm) (J Jx:List (td L)->World->Prop)
 (hY:∀pre x W,J pre W->pre.length<len->YieldAt F (n-1) Tryz.prog l (Ez x) W fun e W'=>
   (e=.returned (.bool true)∧J (pre++[x]) W'∧KpB B gm W W')∨(e=.returned (.bool false)∧Jx (pre++[x]) W'))
 (W:World) (hBs:W.cell? (AD Bs 0)=some (.slice oa len cap)) (hc:∀j u,(nQ ol)[j]?=some u->W.cell? (AD g j)=some u) (h0:J [] W):
 CallsIn F n Tryz.prog 140 #[.func (.yield l) #[] #[],PT Bs 0] W fun e W'=>(∃v,e=.returned v)∧
  ((∃ys,ys=zs∧J ys W')∨(∃pre,True∧Jx pre W')):=by
 refine callsIn_of_wp Tryz.func140 rfl h7 ?_ hro;simp only [Tryz.ntmps140,List.size_toArray,List.length_cons,List.length_nil,Nat.reduceAdd,Nat.reduceSub,Array.replicate_succ,Array.replicate_zero,List.push_toArray,List.append_toArray,List.nil_append,List.cons_append]
 gi_wp2
 gi_loopw [3] (fun i wr=>∃k:Nat,k<=len∧i=VI ((len:Int)-1-(k:Int))∧J (zs.take k) wr∧KpB B gm W wr)
  (fun i _=>(intOf i+1).toNat)
 case atStart=>exact ⟨0,Nat.zero_le _,by simp,h0,KpB.refl _ _ _⟩
 case round=>
  obtain ⟨k,hk,rfl,hJs,hnx⟩:=hrel;have hBs':=hnx.cell hBs hBB hBg;by_cases hlt:k<len
  ·have hoe:=hoa (by omega);subst hoe;obtain ⟨x,hx⟩:∃x,zs[k]?=some x:=⟨zs[k]'(by rw [hz.1,hlen];exact hlt),geg _⟩;obtain ⟨hx1,hx2⟩:=hz.2 k x hx;rw [hlen] at hx1 hx2;have hoc:=Ao ol _ _ hx2;obtain ⟨fn,tmps,assign,body,hy,hR⟩:=hY _ x wr hJs (by rw [List.length_take,hz.1,hlen];omega);obtain ⟨⟨i,ad,y⟩,hxp⟩:=x;simp only at hx1 hx2 hoc;unfold Ez at hy;dsimp only at hy;have hi:(len:Int)-1-(k:Int)=(i:Int):=by omega
   have e0:wr.cell? ⟨g,i*2,none⟩=some (VU ad):=hnx.cell (hc _ _ (by rw [hx1];exact hoc.1)) hgB hgg;have e1:wr.cell? ⟨g,i*2+1,none⟩=some (VU y):=hnx.cell (hc _ _ (by rw [hx1];exact hoc.2)) hgB hgg;have hil:(i:Int)<len:=by omega
   rw [hi];have HTk:Hid (zs.take (k+1)=zs.take k++[⟨(i,ad,y),hxp⟩]):=by
    obtain ⟨hkl,hke⟩:=List.getElem?_eq_some_iff.1 hx;show _=_;rw [List.take_succ_eq_append_getElem hkl,hke]
   have HI:=hid hi;clear hx hx1 hx2 hoc hi hz hc hBs
   gi_wp2
   refine hR.mono ?_;rintro e W3 (⟨rfl,hJ3,hk3⟩ | ⟨rfl,hJx3⟩)
   ·gi_wp2
    go_roundw
    case rel=>
     refine ⟨k+1,by omega,?_,by rw [HTk.out];exact hJ3,hnx.trans hk3⟩;have:=HI.out;congr 1;omega
    case measure=>
     have:=HI.out;simp [intOf]
   ·gi_wp2
    refine bodyPost_ret (results_none rfl _ _ _) rfl ?_;exact ⟨⟨_,rfl⟩,.inr ⟨_,trivial,hJx3⟩⟩
  ·have hkl:k=len:=by omega
   have he:zs.take k=zs:=List.take_of_length_le (by rw [hz.1,hlen];omega);rw [he] at hJs;have hi:(len:Int)-1-(k:Int)= -1:=by omega
   rw [hi];clear hi he hc hBs
   gi_wp2
   go_end0;exact ⟨⟨_,rfl⟩,.inl ⟨_,rfl,hJs⟩⟩
theorem zD (sv:Value) (hs:∃n c a,sv=.slice a n c) (w:World):Calls Tryz.prog 110 #[sv] w fun e w'=>e=.returned (.func (.func 140) #[] #[PT w.heap.size 0])∧w'=w.alloc (.cells #[sv] 83):=by
 obtain ⟨n,c,a,rfl⟩:=hs;have hmf:∀(fn:Fn) (first cap:Array Value) (w:World),(Instr.makeFunc fn first cap).run Tryz.prog w=.ok (.func fn first cap) w:=fun _ _ _ _=>rfl;go_enter Tryz.func110,Tryz.ntmps110;go_wp2;go_ret;exact ⟨rfl,rfl⟩
def tW {L:Nat} (mem:List Int) (pre:List (td L)):List Int:=pre.foldl (fun m x=>m.set x.1.2.1 x.1.2.2) mem
theorem BF {L:Nat} (mem:List Int) (pre:List (td L)) (x:td L):tW mem (pre++[x])=(tW mem pre).set x.1.2.1 x.1.2.2:=by simp [tW,List.foldl_append]
theorem yk {L:Nat} (mem:List Int) (pre:List (td L)):(tW mem pre).length=mem.length:=by
 induction pre generalizing mem with
 | nil=>rfl
 | cons x pre ih=>simpa [tW] using ih (mem.set x.1.2.1 x.1.2.2)
theorem uK:∀(l:List (Nat × Int)) (m:List Int),ia l.reverse m=l.foldl (fun m o=>m.set o.1 o.2) m
 | [],m=>rfl
 | x::l,m=>by rw [List.reverse_cons,qH,uK l];rfl
theorem Do {L:Nat} {ol:List (Nat × Int)} {zs:List (td L)} (h:Dn L ol zs) (mem:List Int):tW mem zs=ia ol mem:=by
 have e:zs.map (fun x=>x.1.2)=ol.reverse:=by
  apply List.ext_getElem?;intro j;by_cases hj:j<zs.length
  ·obtain ⟨h1,h2⟩:=h.2 j zs[j] (geg hj);have hl:j<ol.length:=by rw [<-h.1];exact hj
   rw [List.getElem?_map,geg hj,List.getElem?_reverse hl,h2];rfl
  ·rw [List.getElem?_eq_none (by simpa using hj),List.getElem?_eq_none (by simp [<-h.1];omega)]
 have e2:=uK (zs.map fun x=>x.1.2) mem;rw [e,List.reverse_reverse] at e2;rw [e2,<-e,List.foldl_map];rfl
set_option maxRecDepth 100000 in
theorem BG {O X:Nat->Prop} {m:MP} {ov:Value} {h:HartM} {ol:List (Nat × Int)} (w:World) (k:MW w O X m ov h ol):
 Calls Tryz.prog 76 #[PT m.b 18] w fun e w'=>e=.returned (.tuple #[])∧Blk 5 w' m.gm (ia ol h.mem)∧Kp (fun i=>i=m.gm) w w':=by
 have HK:Hid _:=k;have hb:=k.lt;obtain ⟨on,oc,oa,hov⟩:=k.sh;have c19:=ab k.blk 19 (v:=ov) rfl;have c18:=ab k.blk 18 (v:=SL m.gm h.mem.length h.mem.length) rfl;rw [hov] at c19;have F1:=cw w #[PT m.b 18] 212;clear k;refine (callsIn_wide (n:=6)).1 ?_;refine callsIn_of_wp_marks Tryz.func76 rfl trivial ?_;simp only [Tryz.ntmps76,List.size_toArray,List.length_cons,List.length_nil,Nat.reduceAdd,Nat.reduceSub,Array.replicate_succ,Array.replicate_zero,List.push_toArray,List.append_toArray,List.nil_append,List.cons_append]
 gi_wp2
 refine ⟨trivial,?_⟩;refine (callsIn_wide.2 (zD _ ⟨_,_,_,rfl⟩ _)).mono ?_;rintro e w' ⟨rfl,rfl⟩;obtain ⟨v2,Ev2,F2⟩:=ax2 w #[PT m.b 18] #[.slice oa on oc] 212 83;rw [show (w.alloc (Obj.cells #[PT m.b 18] 212)).heap.size=w.heap.size+1 from by simp];rw [Ev2.out];clear Ev2;obtain ⟨q1,q2,q3,q4⟩:=F2
 gi_wp2
 have K2:=HK.out.low q4;have hml:=K2.mem.lt;obtain ⟨zs,hz⟩:=BE (L:=h.mem.length) ol K2.oln;have hold:=K2.old;rw [hov] at hold;obtain ⟨g,hg1,hg2,hg3,hg4,hg5⟩:∃g,g<v2.heap.size∧g≠m.gm∧(0<ol.length->oa=some (AD g 0))∧(∀j u,(nQ ol)[j]?=some u->v2.cell? (AD g j)=some u)∧on=ol.length:=by
  rcases hold.2 with ⟨h1,h2⟩ | ⟨g',cap,cur,h1,h2,h3,h4,h5,h6,h7⟩
  ·simp only [Value.slice.injEq] at h1;have:ol.length=0:=by omega
   have hnil:=List.length_eq_zero_iff.1 this;subst hnil;exact ⟨m.b,K2.lt,K2.bm,fun h=>by simp at h,fun j u hu=>by simp [nQ] at hu,by omega⟩
  ·simp only [Value.slice.injEq] at h1;obtain ⟨rfl,rfl,rfl⟩:=h1;refine ⟨g',(hpl h3),(K2.oo g' (by rw [hov];rfl)).2.2.1,fun _=>rfl,fun j u hu=>?_,rfl⟩;have hjl:j<ol.length*2:=by
    have:=(List.getElem?_eq_some_iff.1 hu).1;rw [xu] at this;exact this
   exact (World.ownsRow.cellAt hold j hjl).trans hu
 subst hg5;have hBg:w.heap.size+1≠m.gm:=by have:=HK.out.mem.lt;omega
 have hbx:w.heap.size≠m.gm:=by have:=HK.out.mem.lt;omega
 have hl16:=K2.oll;have HK2:Hid _:=K2;have HZ:Hid _:=hz;have hseq:SeqStopsK Fence.wide (6-1) Tryz.prog 140 #[PT (w.heap.size+1) 0] (Ez (L:=h.mem.length)) (KpB v2.heap.size m.gm) (fun xs=>xs=zs) (fun _=>True) ol.length v2:=fun l J Jx W hW hJ hJx hY h0=>by
  have hcB:=Below.cell2 hW (ab q2 0 rfl) (by omega);exact EA Fence.wide (6-1) trivial rfl (by omega) l (w.heap.size+1) v2.heap.size g m.gm ol.length oc h.mem.length oa hg3 ol zs HZ.out rfl hl16 hg1 hg2 (by omega) hBg J Jx hY W hcB (fun j u hu=>Below.cell2 hW (hg4 j u hu) hg1) h0
 refine wpIn_rangeFunc_ownH rfl (by omega) (gf:=140) (lb:=#[PT (w.heap.size+1) 0]) rfl trivial (fun args u=>by kernel_rfl) hseq
  (fun h1 h2=>h1.trans h2) (fun W l o o' hl hW ho1 ho2=>⟨by simp [World.putObj],fun i hi hn=>World.putObj_heap_other (by omega)⟩) brf (fun _=>rfl)
  (fun pre W=>Blk 5 W m.gm (tW h.mem pre)∧Kp (fun i=>i=m.gm) v2 W) (fun _ _ _=>False) ?hI (fun _ _ _ _ _ hs _ _=>hs) ⟨HK2.out.mem,Kp.refl _ _⟩
  (fun x a' W=>∃Bx,v2.heap.size<=Bx∧W.heap[Bx]?=some (.cells #[VU (x.1.2.1:Int),VU x.1.2.2] 217 (0,0))∧a'={ tmps:=#[PT m.b 18,PT w.heap.size 0,undef,PT Bx 0,PT m.b 18,PT m.b 18,PT m.b 19,.slice oa ol.length oc,.func (.func 140) #[] #[PT (w.heap.size+1) 0],VI (x.1.1:Int),.agg #[VU (x.1.2.1:Int),VU x.1.2.2],undef,undef,undef,undef,undef,undef,undef,undef,undef],defers:=[] }) ?hAx ?assign ?body ?done ?stop
 case hI=>
  rintro s W W' row ⟨h1,h2⟩ hg hr;refine ⟨?_,?_⟩
  ·have:W'.heap[m.gm]?=W.heap[m.gm]?:=hg.block m.gm h1.lt (fun e=>by have:=(hr _ e.symm).1;omega);unfold Blk at *;rw [this,h1]
  ·exact ⟨hg.os.trans h2.os,hg.tape.trans h2.tape,hg.output.trans h2.output,Nat.le_trans h2.size hg.size,fun i hi hn=>(hg.block i (ltl hi h2.size) (fun e=>by have:=(hr _ e.symm).1;omega)).trans (h2.block i hi hn)⟩
 case hAx=>
  rintro x a' s W W' row ⟨Bx,h1,h2,h3⟩ hg hr;refine ⟨Bx,h1,?_,h3⟩;rw [hg.block Bx (hpl h2) (fun e=>by
   obtain ⟨_,o,ho,hc⟩:=hr _ e.symm;rw [h2] at ho;cases ho;cases hc),h2]
 case assign=>
  rintro l pre x W K ⟨hi1,hi2⟩ hK;unfold Ez;have A:=cw W #[VU (x.1.2.1:Int),VU x.1.2.2] 217;have hsz:=hi2.size
  gi_wp2
  refine hK _ _ ((KeepsOthers.alloc _ _).from _) ⟨A.2.2.size,fun i hi hn=>A.2.2.block i (by omega)⟩ ⟨Blk.keep hi1 A.2.2 hi1.lt,hi2.trans (Kp.of_below _ A.2.2)⟩ ⟨W.heap.size,hsz,A.1,rfl⟩
 case body=>
  rintro l pre x a' W hl hrc ⟨hi1,hi2⟩ ⟨Bx,hB1,hB2,rfl⟩ hlt;have hsz:=hi2.size;have d0:=ab hB2 0 (v:=VU (x.1.2.1:Int)) rfl;have d1:=ab hB2 1 (v:=VU x.1.2.2) rfl;have e1:=ab (hi2.heap q1 hbx) 0 (v:=PT m.b 18) rfl;have e18:=ab (hi2.heap HK2.out.blk HK2.out.bm) 18 (v:=SL m.gm h.mem.length h.mem.length) rfl;have hW1:Hid (Calls Tryz.prog 83 #[SL m.gm h.mem.length h.mem.length,VU (x.1.2.1:Int),VU x.1.2.2] W fun e w'=>e=.returned (.tuple #[])∧Blk 5 w' m.gm ((tW h.mem pre).set x.1.2.1 (x.1.2.2%256))∧W.grownBy w' (some m.gm)):=
   oO m.gm h.mem.length h.mem.length x.1.2.1 (tW h.mem pre) x.1.2.2 W hi1 (yk _ _) x.2.1 (by have:=HK2.out.len;omega) x.2.2.1 (by have:=x.2.2.2;omega)
  have HB1:=hid hi1;have HB2:=hid hi2;clear hi1 hi2 hrc hseq
  gi_wp2
  have D0:=fun (u:HasC [((AD w.heap.size 0),PT m.b 18),((AD m.b 18),SL m.gm h.mem.length h.mem.length),((AD Bx 0),VU (x.1.2.1:Int)),((AD Bx 1),VU x.1.2.2)])=>u.h ((AD w.heap.size 0),PT m.b 18) (by simp);have n8:=dp W;have hxl:w.heap.size<W.heap.size:=by omega
  have hbl:m.b<W.heap.size:=by omega
  have hBl:=(hpl hB2);have E1:=aC e1 hxl;have E18:=aC e18 hbl;have E0:=aC d0 hBl;have E2:=aC d1 hBl;clear D0 e1 e18 d0 d1 hB2;refine qN (C:=fun w'=>∃u:Lies W,w'=u.w) 8 (by kernel_rfl) (by kernel_rfl) rfl (by kernel_rfl) ⟨⟨W.drew,(brf).drew⟩,rfl⟩ ?_;simp only [List.take_succ_cons,List.take_zero];repeat (go_big_quiet_step (fail))
  refine wpQuiet_nil ?_;rintro _ ⟨u,rfl⟩;have n3:=u.h;generalize u.w=W2 at n3 |-;refine BZ 8 rfl (by kernel_rfl) (by kernel_rfl) (f:=83) (args:=#[SL m.gm h.mem.length h.mem.length,VU (x.1.2.1:Int),VU x.1.2.2]) (by kernel_rfl) ?_;refine (oO m.gm h.mem.length h.mem.length x.1.2.1 (tW h.mem pre) x.1.2.2 W2 (Blk.keep HB1.out n3 (Blk.lt HB1.out)) (yk _ _) x.2.1 (by have:=HK2.out.len;omega) x.2.2.1 (by have:=x.2.2.2;omega)).mono ?_;rintro e W3 ⟨rfl,hm5,hg5⟩;refine ⟨_,rfl,?_⟩;have hgl:=HK2.out.mem.lt;refine ⟨(KeepsFrom.of_grownBy (row:=none) ⟨n3.os,n3.tape,n3.output,n3.size,fun i hi _=>n3.block i hi⟩ (fun j e=>by cases e)).trans (KeepsFrom.of_grownBy hg5 (fun j e=>by cases e;exact hgl)),⟨Nat.le_trans n3.size hg5.size,fun i hi hn=>?_⟩,?_,?_⟩
  ·rw [hg5.block i (by have:=n3.size;omega) (by simpa using hn),n3.block i (by omega)]
  ·rw [BF];have he:x.1.2.2%256=x.1.2.2:=by have:=x.2.2;omega
   rw [he] at hm5;exact hm5
  ·exact (HB2.out.trans (Kp.of_below _ n3)).trans (Kp.of_gb hg5 rfl)
 case done=>
  rintro D ys W hD rfl ⟨h1,h2⟩ hK
  gi_wp2
  refine ⟨by simp,.inl ⟨_,_,rfl,run_takeDeferred hK,?_⟩⟩;refine ⟨_,results_none rfl _ _ _,rfl,?_,?_⟩
  ·rw [<-Do HZ.out h.mem];have:(W.putObj D (.deferred none)).heap[m.gm]?=W.heap[m.gm]?:=World.putObj_heap_other (by omega);unfold Blk at *;rw [this,h1]
  ·refine (((Kp.of_below (fun i=>i=m.gm) q4).trans h2).trans' (O':=fun i=>i=D) (Kp.of_gb (grownBy_putObj' W D (.deferred none)) rfl) (fun i hi e=>?_));have:=q4.size;omega
 case stop=>
  rintro D c pre W _ _ hh;exact hh.elim
end
theorem BV {O X:Nat->Prop} {m:MP} {ov:Value} {h:HartM} {ol:List (Nat × Int)} (w:World) (k:MW w O X m ov h ol):
 Calls Tryz.prog 74 #[PT m.b 18] w fun e w'=>e=.returned (.tuple #[])∧∃ov',MW w' O X m ov' h []∧w.grownBy w' (some m.b):=by
 have HK:Hid _:=k;obtain ⟨on,oc,oa,hov⟩:=k.sh;have c19:=ab k.blk 19 (v:=ov) rfl;have f19:=az k.blk 19;have hold:=k.old;rw [hov] at c19 hold;have HOv:Hid _:=hov;clear k hov;have hsh:(oa=none∧on=0∧oc=0)∨∃g,oa=some (AD g 0)∧oc<=9223372036854775807:=by
  rcases hold.2 with ⟨h1,h2⟩ | ⟨g,cap,cur,h1,h2,h3,h4,h5,h6⟩
  ·simp only [Value.slice.injEq] at h1;exact .inl ⟨h1.1,h1.2.1,h1.2.2⟩
  ·simp only [Value.slice.injEq] at h1;exact .inr ⟨g,h1.1,by rw [h1.2.2];unfold maxLen at h5;exact h5⟩
 have fin:∀V:Value,(∃n c a,V=.slice a n c)->(∀g,V.ownBlock=some g->ov.ownBlock=some g)->w.ownsRow 0 217 2 V 0 []->∃ov',MW (w.setCell (AD m.b 19) V) O X m ov' h []∧w.grownBy (w.setCell (AD m.b 19) V) (some m.b):=by
  intro V hsV hV hoV;have g:=aq (aw w (some m.b)) 19 V;have K:=HK.out;have hk:Kp (fun i=>i=m.b) w (w.setCell (AD m.b 19) V):=Kp.of_gb g rfl;refine ⟨V,⟨bD K.blk,hk.blk K.mem (Ne.symm K.bm),hk.own hoV fun g e=>(K.oo g (hV g e)).2.1,K.ob,K.om,fun g e=>K.oo g (hV g e),K.bm,K.xb,K.xm,fun i hi=>⟨(K.xo i hi).1,ltl (K.xo i hi).2 g.size⟩,K.byt,K.len,K.regs,by simp,hsV,fun i hi=>ltl (K.obd i hi) g.size,by simp⟩,g⟩
 have HFin:Hid _:=fin;clear fin;rcases hsh with ⟨rfl,rfl,rfl⟩ | ⟨g,rfl,hoc⟩
 ·go_enter Tryz.func74,Tryz.ntmps74;go_wp2;go_end0;exact ⟨rfl,HFin.out _ ⟨_,_,_,rfl⟩ (fun g e=>by simp [Value.ownBlock] at e) (World.ownsRow_nil _ _ _ _)⟩
 ·have ho0:w.ownsRow 0 217 2 (SL g 0 oc) 0 []:=by
   rcases hold.2 with ⟨h1,h2⟩ | ⟨g',cap,cur,h1,h2,h3,h4,h5,h6⟩
   ·simp at h1
   ·simp only [Value.slice.injEq,Option.some.injEq,Addr.mk.injEq] at h1;obtain ⟨⟨rfl,_⟩,_,rfl⟩:=h1;exact ⟨by simp,.inr ⟨_,_,cur,rfl,h2,h3,Nat.zero_le _,h5,h6.1,by simp⟩⟩
  have HO0:=hid ho0;have hon:on<=oc:=by
   rcases hold.2 with ⟨h1,h2⟩ | ⟨g',cap,cur,h1,h2,h3,h4,h5,h6⟩
   ·simp at h1
   ·simp only [Value.slice.injEq] at h1;omega
  clear hold ho0;go_enter Tryz.func74,Tryz.ntmps74;go_wp2;go_end0;exact ⟨rfl,HFin.out (SL g 0 oc) ⟨_,_,_,rfl⟩ (fun g' e=>by rw [HOv.out];exact e) HO0.out⟩
theorem DA {w:World} {b i:Nat} {C:Array Value} {T:TypeId} {v:Value} (x:Int) (h:w.heap[b]?=some (.cells C T (0,0))) (hv:C[i]?=some v):(Instr.storeAt 29 (PT b i) (VU x)).run Tryz.prog w=.ok () (w.setCell (AD b i) (VU x)):=by
 have c:=ab h i hv;have f:=az h i;go_simp
theorem Az {w:World} {b i:Nat} {C:Array Value} {T:TypeId} {v:Value} (x:Int) (h:w.heap[b]?=some (.cells C T (0,0))) (hv:C[i]?=some v):(Instr.storeAt 2 (PT b i) (VI x)).run Tryz.prog w=.ok () (w.setCell (AD b i) (VI x)):=by
 have c:=ab h i hv;have f:=az h i;go_simp
theorem EN {O X:Nat->Prop} {m:MP} {ov:Value} {h:HartM} {ol:List (Nat × Int)} (c t:Int) (w:World) (k:MW w O X m ov h ol):
 Calls Tryz.prog 77 #[PT m.b 0,.agg #[VI c,VU t]] w fun e w'=>e=.returned (.tuple #[])∧MW w' O X m ov ⟨h.mem,h.regs,h.tvec,2,h.sum,h.mxr,h.satp,h.tvec,h.pc,h.mode,c,t,h.k⟩ ol∧Kp (fun i=>i=m.b) w w':=by
 have HK:Hid _:=k;have hb:=k.lt;have hbk:=k.blk;clear k;obtain ⟨b,hbm⟩:∃b,m.b=b:=⟨_,rfl⟩;have HBm:Hid _:=hbm;rw [hbm] at hb hbk |-;clear hbm;obtain ⟨v1,Ev1,F⟩:=ax1 w #[VI c,VU t] 99;go_enter Tryz.func77,Tryz.ntmps77;go_upto_region 1 with fail;rw [Ev1.out];clear Ev1;obtain ⟨f1,f2,n1⟩:=F;have HB1:Hid (v1.heap[b]?=some (.cells (cN h m.gm ov m.gi m.gd m.gp m.pv) 97 (0,0))):=ag hbk n1 hb;have HF1:Hid _:=f1;have HN1:Hid _:=n1;have nbw:w.heap.size≠b:=by omega
 clear f1 f2 n1 hbk;have N1:Hid (Kp (fun i=>i=b) w v1):=Kp.of_below _ HN1.out;have HBd:Hid (v1.drew.heap[b]?=some _):=HB1;have HFd:Hid (v1.drew.heap[w.heap.size]?=some _):=HF1;have J0:∀u:HasC [((AD b 8),VU h.pc),((AD b 9),VI h.mode)],u.w.cell? (AD b 8)=some (VU h.pc):=fun u=>u.h ((AD b 8),VU h.pc) (by simp);have J1:∀u:HasC [((AD b 8),VU h.pc),((AD b 9),VI h.mode)],u.w.cell? (AD b 9)=some (VI h.mode):=fun u=>u.h ((AD b 9),VI h.mode) (by simp);have g0:∃u:HasC [((AD b 8),VU h.pc),((AD b 9),VI h.mode)],v1.drew=u.w:=⟨⟨v1.drew,by
  intro q hq;simp only [List.mem_cons,List.not_mem_nil,or_false] at hq;rcases hq with rfl | rfl
  ·exact ab HBd.out 8 rfl
  ·exact ab HBd.out 9 rfl
  ⟩,rfl⟩
 have g1:∃u:HasC [((AD b 8),VU h.pc),((AD b 9),VI h.mode)],(v1.drew.setCell (AD b 14) (VU h.pc))=u.w:=⟨⟨(v1.drew.setCell (AD b 14) (VU h.pc)),by
  intro q hq;simp only [List.mem_cons,List.not_mem_nil,or_false] at hq;rcases hq with rfl | rfl
  ·exact ab (bD (v:=VU h.pc) (i:=14) HBd.out) 8 rfl
  ·exact ab (bD (v:=VU h.pc) (i:=14) HBd.out) 9 rfl
  ⟩,rfl⟩
 have ne:Nonempty (HasC [((AD b 8),VU h.pc),((AD b 9),VI h.mode)]):=let ⟨u,_⟩:=g0;⟨u⟩
 have HB2:Hid _:=bD (v:=VI h.mode) (i:=15) (bD (v:=VU h.pc) (i:=14) HBd.out);have hgs:=aq (aq (aw v1.drew (some b)) 14 (VU h.pc)) 15 (VI h.mode);have HF2:Hid _:=aB HFd.out hgs nbw;have N2:Hid (Kp (fun i=>i=b) w ((v1.drew.setCell (AD b 14) (VU h.pc)).setCell (AD b 15) (VI h.mode))):=(N1.out.trans (Kp.of_below _ (brf).drew)).trans (Kp.of_gb hgs rfl);refine aN (fun w'=>∃u:HasC [((AD b 8),VU h.pc),((AD b 9),VI h.mode)],w'=u.w) 15 ?_;refine eZ (fuel:=4) g0 [0,1,2,3,4,5,6,7,8,9,10,11] ?_;simp only [gX,List.getElem?_toArray,List.getElem?_cons_zero,List.getElem?_cons_succ];repeat (go_big_quiet_step (fail))
 refine wpQuiet_nil ?_;refine dO 12 15 9 (T:=29) (b:=b) (off:=14) (V:=VU h.pc) (w':=v1.drew.setCell (AD b 14) (VU h.pc)) rfl (DA _ HBd.out rfl) ?_ (hS:=.inr g1);refine eZ (fuel:=1) g1 [13,14] ?_;simp only [gX,List.getElem?_toArray,List.getElem?_cons_zero,List.getElem?_cons_succ];repeat (go_big_quiet_step (fail))
 refine wpQuiet_nil ?_;refine dO 15 17 13 (T:=2) (b:=b) (off:=15) (V:=VI h.mode) (w':=(v1.drew.setCell (AD b 14) (VU h.pc)).setCell (AD b 15) (VI h.mode)) rfl (Az _ (bD HBd.out) rfl) ?_;refine dt ?_;clear g0 g1 ne hgs J0 J1 HBd HFd;generalize ((v1.drew.setCell (AD b 14) (VU h.pc)).setCell (AD b 15) (VI h.mode))=v2 at HB2 HF2 N2 |-;go_upto_region 2 with fail;have HBd:Hid (v2.drew.heap[b]?=some _):=HB2;have HFd:Hid (v2.drew.heap[w.heap.size]?=some _):=HF2;have J0:∀u:HasC [((AD w.heap.size 0),VI c),((AD w.heap.size 1),VU t)],u.w.cell? (AD w.heap.size 0)=some (VI c):=fun u=>u.h ((AD w.heap.size 0),VI c) (by simp);have J1:∀u:HasC [((AD w.heap.size 0),VI c),((AD w.heap.size 1),VU t)],u.w.cell? (AD w.heap.size 1)=some (VU t):=fun u=>u.h ((AD w.heap.size 1),VU t) (by simp);have g0:∃u:HasC [((AD w.heap.size 0),VI c),((AD w.heap.size 1),VU t)],v2.drew=u.w:=⟨⟨v2.drew,by
  intro q hq;simp only [List.mem_cons,List.not_mem_nil,or_false] at hq;rcases hq with rfl | rfl
  ·exact ab HFd.out 0 rfl
  ·exact ab HFd.out 1 rfl
  ⟩,rfl⟩
 have g1:∃u:HasC [((AD w.heap.size 0),VI c),((AD w.heap.size 1),VU t)],(v2.drew.setCell (AD b 16) (VI c))=u.w:=⟨⟨(v2.drew.setCell (AD b 16) (VI c)),by
  intro q hq;simp only [List.mem_cons,List.not_mem_nil,or_false] at hq;rcases hq with rfl | rfl
  ·exact ab (aB HFd.out (aq (aw v2.drew (some b)) 16 (VI c)) nbw) 0 rfl
  ·exact ab (aB HFd.out (aq (aw v2.drew (some b)) 16 (VI c)) nbw) 1 rfl
  ⟩,rfl⟩
 have ne:Nonempty (HasC [((AD w.heap.size 0),VI c),((AD w.heap.size 1),VU t)]):=let ⟨u,_⟩:=g0;⟨u⟩
 have HB3:Hid _:=bD (v:=VU t) (i:=17) (bD (v:=VI c) (i:=16) HBd.out);have hgs:=aq (aq (aw v2.drew (some b)) 16 (VI c)) 17 (VU t);have HF3:Hid _:=aB HFd.out hgs nbw;have N3:Hid (Kp (fun i=>i=b) w ((v2.drew.setCell (AD b 16) (VI c)).setCell (AD b 17) (VU t))):=(N2.out.trans (Kp.of_below _ (brf).drew)).trans (Kp.of_gb hgs rfl);refine aN (fun w'=>∃u:HasC [((AD w.heap.size 0),VI c),((AD w.heap.size 1),VU t)],w'=u.w) 11 ?_;refine eZ (fuel:=4) g0 [0,1,2,3,4,5,6,7] ?_;simp only [gX,List.getElem?_toArray,List.getElem?_cons_zero,List.getElem?_cons_succ];repeat (go_big_quiet_step (fail))
 refine wpQuiet_nil ?_;refine dO 8 25 21 (T:=2) (b:=b) (off:=16) (V:=VI c) (w':=v2.drew.setCell (AD b 16) (VI c)) rfl (Az _ HBd.out rfl) ?_ (hS:=.inr g1);refine eZ (fuel:=1) g1 [9,10] ?_;simp only [gX,List.getElem?_toArray,List.getElem?_cons_zero,List.getElem?_cons_succ];repeat (go_big_quiet_step (fail))
 refine wpQuiet_nil ?_;refine dO 11 27 23 (T:=29) (b:=b) (off:=17) (V:=VU t) (w':=(v2.drew.setCell (AD b 16) (VI c)).setCell (AD b 17) (VU t)) rfl (DA _ (bD HBd.out) rfl) ?_;refine dt ?_;clear g0 g1 ne hgs J0 J1 HBd HFd;generalize ((v2.drew.setCell (AD b 16) (VI c)).setCell (AD b 17) (VU t))=v3 at HB3 HF3 N3 |-;have c13:=ab HB3.out 13 (v:=VU h.tvec) rfl;have c8:=ab HB3.out 8 (v:=VU h.pc) rfl;have c9:=ab HB3.out 9 (v:=VI h.mode) rfl;have f8:=az HB3.out 8;have f9:=az HB3.out 9;have HB4:Hid _:=bD (v:=VI 2) (i:=9) (bD (v:=VU h.tvec) (i:=8) HB3.out);have hgs:=aq (aq (aw v3 (some b)) 8 (VU h.tvec)) 9 (VI 2);have N4:Hid (Kp (fun i=>i=b) w ((v3.setCell (AD b 8) (VU h.tvec)).setCell (AD b 9) (VI 2))):=N3.out.trans (Kp.of_gb hgs rfl);clear hgs;go_wp2;go_end0;generalize (v3.setCell (AD b 8) (VU h.tvec)).setCell (AD b 9) (VI 2)=v4 at HB4 N4 |-;refine ⟨rfl,?_,N4.out⟩;have K:=HK.out;have kk:=N4.out;rw [<-HBm.out] at kk HB4;exact ⟨HB4.out,kk.blk K.mem (Ne.symm K.bm),kk.own K.old fun g e=>(K.oo g e).2.1,K.ob,K.om,K.oo,K.bm,K.xb,K.xm,fun i hi=>⟨(K.xo i hi).1,ltl (K.xo i hi).2 kk.size⟩,K.byt,K.len,K.regs,K.oll,K.sh,fun i hi=>ltl (K.obd i hi) kk.size,K.oln⟩
end Go.Proofs.YtkenjknmfhoppaaGreat
