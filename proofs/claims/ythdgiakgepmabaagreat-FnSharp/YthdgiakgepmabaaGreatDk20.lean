import Derived.RangeFuncNested
import Derived.RangeFuncCalls
import Derived.OrdersIn
import Derived.TacticsIn
import Derived.RangeFuncBound
import Derived.RangeFuncLeaves
import Derived.Shelf.Abstract
import Derived.Shelf.RegionOpen
import Derived.OwnWalkIn
import Derived.TacticsInMore
import Derived.LoopNIn
import Derived.LoopIn
import Derived.Test.YthdgiakgepmabaaGreatDk19
import Derived.Recover
import Derived.Defers
namespace Go.Proofs.YthdgiakgepmabaaGreat
open Go.RowKit
set_option linter.unusedVariables false
set_option maxHeartbeats 6400000
set_option maxRecDepth 20000
section
variable {P:Program} {ops:Array Oper} {md:Region.Mode} {C:World->Prop} {l m:Nat}
def pF (ops:Array Oper):Bool:=ops.all fun o=>match o.op with | .defer _=>false | _=>true
theorem pG (h:pF ops=true) {i:Nat} {o:Oper} (ho:ops[i]?=some o):∀c,o.op≠.defer c:=by
 intro c hc;have hm:=Array.mem_of_getElem? ho;have:=Array.all_eq_true_iff_forall_mem.1 h o hm;rw [hc] at this;cases this
theorem yM {i:Nat} {a:Act} {K:Act->Prop} {K':Act->World->Prop} {Q:Exit->Act->World->Prop} {w:World} (nd:pF ops=true) (hC:C w) (h:∀a w',C w'->K a->K' a w') (hh:qOp P ops C i K a):wpOpIn (Fence.wide.inRound l) m P ops Q i K' a w:=by
 unfold qOp at hh;unfold wpOpIn;cases ho:ops[i]? with
 | none=>rw [ho] at hh;exact h _ _ hC hh
 | some o=>
  rw [ho] at hh;simp only at hh |-;by_cases hw:Region.wanted o (yielded ops a.tmps)=true
  ·rw [if_pos hw] at hh |-;obtain ⟨v,h1,h2⟩:=hh;have h3:=h1 w hC;refine ⟨fun _ _=>trivial,?_⟩;rw [Fence.inRound_round,Oper.semAt_some l _ o (pG nd ho)];unfold Oper.quietAt at h3;generalize (execOp a.eval o).run P w=r at h3 |-;cases r with
   | halt x w'=>exact h3.elim
   | ok nx w'=>
    cases nx <;> simp only [Oper.quietUpon] at h3
    case value u=>
     obtain ⟨e1,e2⟩:=h3;subst e1 e2;exact h _ _ hC h2
    case skip=>
     obtain ⟨e1,e2⟩:=h3;subst e1 e2;exact h _ _ hC h2
    case enter f args=>
     obtain ⟨e1,hc⟩:=h3;subst e1;refine ⟨fun hd=>by simp [Fence.wide] at hd,?_⟩;refine (CallsIn.inRound l (callsIn_wide.2 hc)).mono ?_;rintro e w'' ⟨rfl,hw''⟩;exact h _ _ hw'' h2
  ·rw [if_neg hw] at hh |-;exact ⟨fun _ _=>trivial,h _ _ hC hh⟩
theorem HeadQ.anyIn {n g:Nat} {L:Array Bool->Act->Prop} {Q:Exit->Act->World->Prop} (nd:pF ops=true) (hL:∀s a w,C w->L s a->wpAnyIn (Fence.wide.inRound l) m P md ops Q g s a w):
 ∀(f:Nat) (s:Array Bool) (a:Act) (w:World),C w->HeadQ P md ops C n L f s a->wpAnyIn (Fence.wide.inRound l) m P md ops Q (f+g) s a w
 | 0,s,a,w,hw,h=>by
  rw [Nat.zero_add];exact hL s a w hw h
 | f+1,s,a,w,hw,h=>by
  have e:f+1+g=(f+g)+1:=by omega
  rw [e];exact ⟨fun h0=>(h.1 h0).elim,fun i hi=>yM nd hw (fun a' w' hw' h'=>HeadQ.anyIn nd hL f _ a' w' hw' h') (h.2 i hi).2⟩
theorem qk {id:Nat} {Q:Exit->Act->World->Prop} {a:Act} {w:World} {lo:List Oper} (n:Nat) (hm:P.follows .mixedOrders=true) (hB:Region.lexTailB .any lo.toArray n=true) (hz:lo.length=n+1) (nd:pF lo.toArray=true) (hC:C w.drew)
 (h:wpQuiet P lo.toArray C (fun a'=>∀w',C w'->wpOpIn (Fence.wide.inRound l) m P lo.toArray Q n (fun a'' w''=>Q .normal a'' w'') a' w') (lo.take n) a):(Code.region id lo.toArray true).wpIn (Fence.wide.inRound l) m P Q a w:=by
 simp only [Region.lexTailB,Bool.and_eq_true,decide_eq_true_eq] at hB;obtain ⟨⟨⟨⟨ns,hn⟩,hs⟩,hc⟩,hx⟩:=hB;have e1:(lo.take n).length=n:=by simp;omega
 have e2:lo.toArray.size-n=1:=by simp;omega
 have i0:HeadInv .any lo.toArray n (Array.replicate lo.toArray.size false):=
  ⟨by simp,fun j oj _ hl=>(by rw [getD_replicate_false] at hl;cases hl),fun t _ ht=>getD_in (by simpa using ht) (getD_replicate_false _ _)⟩
 have hl:=HeadQ.lex (P:=P) (C:=C) (g:=lo.toArray.size-n) ns hs hc hn (lo.take n) 0 (Array.replicate lo.toArray.size false) a (fun j hj=>by
  rw [e1] at hj;simp [hj]) (by rw [e1];omega) i0 (by rw [e1];exact hx) h
 rw [e1,e2] at hl;refine wpIn_region_any hm ?_;have:=HeadQ.anyIn (l:=l) (m:=m) (Q:=Q) (g:=1) (C:=C) nd (fun s a' w' hw' hL=>by
  obtain ⟨h1,h2⟩:=hL;simp only [Region.seqB,Bool.and_eq_true,decide_eq_true_eq,List.isEmpty_iff] at h1;refine ⟨fun h0=>(by rw [h1.1] at h0;cases h0),fun i hi=>?_⟩;rw [h1.1] at hi;have hi':i=n:=by simpa using hi
  subst hi';exact wpOpIn_mono (fun a'' w'' hq=>⟨h1.2,hq⟩) (h2 w' hw')) n _ a w.drew hC hl
 rw [show n+1=lo.toArray.size by simp;omega] at this;exact this
theorem Cp {Q:Exit->Act->World->Prop} {K:Act->World->Prop} {a:Act} {w:World} (i:Nat) {o:Oper} (hi:ops[i]?=some o) (hg:o.guard=none) (nd:pF ops=true) {f:FuncId} {args:Array Value} (he:(execOp a.eval o).run P w=.ok (.enter f args) w)
 (h:Calls P f args w fun e w'=>∃x,e=.returned x∧K (a.put o.dst x) w'):wpOpIn (Fence.wide.inRound l) m P ops Q i K a w:=by
 unfold wpOpIn;simp only [hi];rw [if_pos (by simp [Region.wanted,hg])];refine ⟨fun _ _=>trivial,?_⟩;rw [Fence.inRound_round,Oper.semAt_some l _ o (pG nd hi),he];refine ⟨fun hd=>by simp [Fence.wide] at hd,?_⟩;refine (CallsIn.inRound l (callsIn_wide.2 h)).mono ?_;rintro e w' ⟨x,rfl,hx⟩;exact hx
end
section
open Go.RowKit Go.Shelf
attribute [local go_sem] Oper.semAt_some
abbrev te (L:Nat):={ o:Nat × Nat × Int//o.2.1<L∧0<=o.2.2∧o.2.2<=255 }
def Fy {L:Nat} (x:te L):Array Value:=#[VI (x.1.1:Int),.agg #[VU (x.1.2.1:Int),VU x.1.2.2]]
def KpB (B g:Nat) (W W':World):Prop:=W.heap.size<=W'.heap.size∧∀i,i<B->i≠g->W'.heap[i]?=W.heap[i]?
theorem KpB.refl (B g:Nat) (W:World):KpB B g W W:=⟨nle,fun _ _ _=>rfl⟩
theorem KpB.trans {B g:Nat} {a b c:World} (h:KpB B g a b) (k:KpB B g b c):KpB B g a c:=⟨Nat.le_trans h.1 k.1,fun i hi hn=>(k.2 i hi hn).trans (h.2 i hi hn)⟩
theorem KpB.cell {B g:Nat} {W W':World} (h:KpB B g W W') {b o:Nat} {x:Option Value} (hc:W.cell? (AD b o)=x) (hb:b<B) (hg:b≠g):W'.cell? (AD b o)=x:=(World.cell?_of_block (h.2 b hb hg)).trans hc
def DP (L:Nat) (ol:List (Nat × Int)) (zs:List (te L)):Prop:=
 zs.length=ol.length∧∀(j:Nat) (x:te L),zs[j]?=some x->x.1.1=ol.length-1-j∧ol[ol.length-1-j]?=some x.1.2
theorem BU {L:Nat}:∀(ol:List (Nat × Int)),(∀o∈ol,o.1<L∧0<=o.2∧o.2<=255)->∃zs:List (te L),DP L ol zs:=by
 intro ol h;refine ⟨List.pmap (fun o ho=>⟨o,ho⟩) ((List.range ol.length).map fun j=>(ol.length-1-j,ol[ol.length-1-j]?.getD (0,0))) ?_,by rw [List.length_pmap,List.length_map,List.length_range],?_⟩
 ·intro o ho;obtain ⟨j,hj,rfl⟩:=List.mem_map.1 ho;have hj':=List.mem_range.1 hj;have hl:ol.length-1-j<ol.length:=by omega
  rw [geg hl];exact h _ (List.getElem_mem hl)
 ·intro j x hx;obtain ⟨hj,hx'⟩:=List.getElem?_eq_some_iff.1 hx;simp only [List.length_pmap,List.length_map,List.length_range] at hj;have hl:ol.length-1-j<ol.length:=by omega
  simp only [List.getElem_pmap,List.getElem_map,List.getElem_range] at hx';rw [<-hx'];simp [hl]
theorem AC:∀(ol:List (Nat × Int)) (j:Nat) (o:Nat × Int),ol[j]?=some o->(mS ol)[j*2]?=some (VU o.1)∧(mS ol)[j*2+1]?=some (VU o.2)
 | [],j,o,h=>by simp at h
 | q::ol,0,o,h=>by
  simp only [List.getElem?_cons_zero,Option.some.injEq] at h;subst h;exact ⟨rfl,rfl⟩
 | q::ol,j+1,o,h=>by
  have ih:=AC ol j o (by simpa using h);rw [show (j+1)*2=j*2+1+1 by omega];simp only [mS];rw [show j*2+1+1+1=(j*2+1)+1+1 by omega];simpa only [List.getElem?_cons_succ] using ih
set_option maxRecDepth 100000 in
theorem Fz (F:Fence) (n:Nat) (h7:F.fn 106) (hro:F.round=none) (hn:1<=n) (l Bs B g gm len cap L:Nat) (oa:Option Addr) (hoa:0<len->oa=some (AD g 0)) (ol:List (Nat × Int)) (zs:List (te L)) (hz:DP L ol zs) (hlen:ol.length=len) (hl16:len<=16) (hgB:g<B) (hgg:g≠gm) (hBB:Bs<B) (hBg:Bs≠gm) (J Jx:List (te L)->World->Prop)
 (hY:∀pre x W,J pre W->pre.length<len->YieldAt F (n-1) Tryz.prog l (Fy x) W fun e W'=>
   (e=.returned (.bool true)∧J (pre++[x]) W'∧KpB B gm W W')∨(e=.returned (.bool false)∧Jx (pre++[x]) W'))
 (W:World) (hBs:W.cell? (AD Bs 0)=some (.slice oa len cap)) (hc:∀j u,(mS ol)[j]?=some u->W.cell? (AD g j)=some u) (h0:J [] W):
 CallsIn F n Tryz.prog 106 #[.func (.yield l) #[] #[],PT Bs 0] W fun e W'=>(∃v,e=.returned v)∧
  ((∃ys,ys=zs∧J ys W')∨(∃pre,True∧Jx pre W')):=by
 refine callsIn_of_wp Tryz.func106 rfl h7 ?_ hro;simp only [Tryz.ntmps106,List.size_toArray,List.length_cons,List.length_nil,Nat.reduceAdd,Nat.reduceSub,Array.replicate_succ,Array.replicate_zero,List.push_toArray,List.append_toArray,List.nil_append,List.cons_append]
 gi_wp2
 gi_loopw [3] (fun i wr=>∃k:Nat,k<=len∧i=VI ((len:Int)-1-(k:Int))∧J (zs.take k) wr∧KpB B gm W wr)
  (fun i _=>(intOf i+1).toNat)
 case atStart=>exact ⟨0,Nat.zero_le _,by simp,h0,KpB.refl _ _ _⟩
 case round=>
  obtain ⟨k,hk,rfl,hJs,hnx⟩:=hrel;have hBs':=hnx.cell hBs hBB hBg;by_cases hlt:k<len
  ·have hoe:=hoa (by omega);subst hoe;obtain ⟨x,hx⟩:∃x,zs[k]?=some x:=⟨zs[k]'(by rw [hz.1,hlen];exact hlt),geg _⟩;obtain ⟨hx1,hx2⟩:=hz.2 k x hx;rw [hlen] at hx1 hx2;have hoc:=AC ol _ _ hx2;obtain ⟨fn,tmps,assign,body,hy,hR⟩:=hY _ x wr hJs (by rw [List.length_take,hz.1,hlen];omega);obtain ⟨⟨i,ad,y⟩,hxp⟩:=x;simp only at hx1 hx2 hoc;unfold Fy at hy;dsimp only at hy;have hi:(len:Int)-1-(k:Int)=(i:Int):=by omega
   have e0:wr.cell? ⟨g,i*2,none⟩=some (VU ad):=hnx.cell (hc _ _ (by rw [hx1];exact hoc.1)) hgB hgg;have e1:wr.cell? ⟨g,i*2+1,none⟩=some (VU y):=hnx.cell (hc _ _ (by rw [hx1];exact hoc.2)) hgB hgg;have hil:(i:Int)<len:=by omega
   rw [hi];have HTk:Hid (zs.take (k+1)=zs.take k++[⟨(i,ad,y),hxp⟩]):=by
    obtain ⟨hkl,hke⟩:=List.getElem?_eq_some_iff.1 hx;show _=_;rw [List.take_succ_eq_append_getElem hkl,hke]
   have HI:=hid hi;clear hx hx1 hx2 hoc hi hz hc hBs
   gi_wp2
   refine hR.mono ?_;rintro e W3 (⟨rfl,hJ3,hk3⟩ | ⟨rfl,hJx3⟩)
   ·gi_wp2
    go_roundw
    case rel=>
     refine ⟨k+1,by omega,?_,by rw [HTk.out];exact hJ3,hnx.trans hk3⟩;have:=HI.out;congr 1;omega
    case measure=>
     have:=HI.out;simp [intOf]
   ·gi_wp2
    refine bodyPost_ret (results_none rfl _ _ _) rfl ?_;exact ⟨⟨_,rfl⟩,.inr ⟨_,trivial,hJx3⟩⟩
  ·have hkl:k=len:=by omega
   have he:zs.take k=zs:=List.take_of_length_le (by rw [hz.1,hlen];omega);rw [he] at hJs;have hi:(len:Int)-1-(k:Int)= -1:=by omega
   rw [hi];clear hi he hc hBs
   gi_wp2
   go_end0;exact ⟨⟨_,rfl⟩,.inl ⟨_,rfl,hJs⟩⟩
theorem zN (sv:Value) (hs:∃n c a,sv=.slice a n c) (w:World):Calls Tryz.prog 80 #[sv] w fun e w'=>e=.returned (.func (.func 106) #[] #[PT w.heap.size 0])∧w'=w.alloc (.cells #[sv] 76):=by
 obtain ⟨n,c,a,rfl⟩:=hs;have hmf:∀(fn:Fn) (first cap:Array Value) (w:World),(Instr.makeFunc fn first cap).run Tryz.prog w=.ok (.func fn first cap) w:=fun _ _ _ _=>rfl;go_enter Tryz.func80,Tryz.ntmps80;go_wp2;go_ret;exact ⟨rfl,rfl⟩
def tM {L:Nat} (mem:List Int) (pre:List (te L)):List Int:=pre.foldl (fun m x=>m.set x.1.2.1 x.1.2.2) mem
theorem BV {L:Nat} (mem:List Int) (pre:List (te L)) (x:te L):tM mem (pre++[x])=(tM mem pre).set x.1.2.1 x.1.2.2:=by simp [tM,List.foldl_append]
theorem yj {L:Nat} (mem:List Int) (pre:List (te L)):(tM mem pre).length=mem.length:=by
 induction pre generalizing mem with
 | nil=>rfl
 | cons x pre ih=>simpa [tM] using ih (mem.set x.1.2.1 x.1.2.2)
theorem ut:∀(l:List (Nat × Int)) (m:List Int),gA l.reverse m=l.foldl (fun m o=>m.set o.1 o.2) m
 | [],m=>rfl
 | x::l,m=>by rw [List.reverse_cons,qf,ut l];rfl
theorem DQ {L:Nat} {ol:List (Nat × Int)} {zs:List (te L)} (h:DP L ol zs) (mem:List Int):tM mem zs=gA ol mem:=by
 have e:zs.map (fun x=>x.1.2)=ol.reverse:=by
  apply List.ext_getElem?;intro j;by_cases hj:j<zs.length
  ·obtain ⟨h1,h2⟩:=h.2 j zs[j] (geg hj);have hl:j<ol.length:=by rw [<-h.1];exact hj
   rw [List.getElem?_map,geg hj,List.getElem?_reverse hl,h2];rfl
  ·rw [List.getElem?_eq_none (by simpa using hj),List.getElem?_eq_none (by simp [<-h.1];omega)]
 have e2:=ut (zs.map fun x=>x.1.2) mem;rw [e,List.reverse_reverse] at e2;rw [e2,<-e,List.foldl_map];rfl
set_option maxRecDepth 100000 in
theorem BW {O X:Nat->Prop} {m:MP} {ov:Value} {h:HartM} {ol:List (Nat × Int)} (w:World) (k:MW w O X m ov h ol):
 Calls Tryz.prog 58 #[PT m.b 18] w fun e w'=>e=.returned (.tuple #[])∧Blk 5 w' m.gm (gA ol h.mem)∧Kp (fun i=>i=m.gm) w w':=by
 have HK:Hid _:=k;have hb:=k.lt;obtain ⟨on,oc,oa,hov⟩:=k.sh;have c19:=ab k.blk 19 (v:=ov) rfl;have c18:=ab k.blk 18 (v:=SL m.gm h.mem.length h.mem.length) rfl;rw [hov] at c19;have F1:=bF w #[PT m.b 18] 183;clear k;refine (callsIn_wide (n:=6)).1 ?_;refine callsIn_of_wp_marks Tryz.func58 rfl trivial ?_;simp only [Tryz.ntmps58,List.size_toArray,List.length_cons,List.length_nil,Nat.reduceAdd,Nat.reduceSub,Array.replicate_succ,Array.replicate_zero,List.push_toArray,List.append_toArray,List.nil_append,List.cons_append]
 gi_wp2
 refine ⟨trivial,?_⟩;refine (callsIn_wide.2 (zN _ ⟨_,_,_,rfl⟩ _)).mono ?_;rintro e w' ⟨rfl,rfl⟩;obtain ⟨v2,Ev2,F2⟩:=ax2 w #[PT m.b 18] #[.slice oa on oc] 183 76;rw [show (w.alloc (Obj.cells #[PT m.b 18] 183)).heap.size=w.heap.size+1 from by simp];rw [Ev2.out];clear Ev2;obtain ⟨q1,q2,q3,q4⟩:=F2
 gi_wp2
 have K2:=HK.out.low q4;have hml:=K2.mem.lt;obtain ⟨zs,hz⟩:=BU (L:=h.mem.length) ol K2.oln;have hold:=K2.old;rw [hov] at hold;obtain ⟨g,hg1,hg2,hg3,hg4,hg5⟩:∃g,g<v2.heap.size∧g≠m.gm∧(0<ol.length->oa=some (AD g 0))∧(∀j u,(mS ol)[j]?=some u->v2.cell? (AD g j)=some u)∧on=ol.length:=by
  rcases hold.2 with ⟨h1,h2⟩ | ⟨g',cap,cur,h1,h2,h3,h4,h5,h6,h7⟩
  ·simp only [Value.slice.injEq] at h1;have:ol.length=0:=by omega
   have hnil:=List.length_eq_zero_iff.1 this;subst hnil;exact ⟨m.b,K2.lt,K2.bm,fun h=>by simp at h,fun j u hu=>by simp [mS] at hu,by omega⟩
  ·simp only [Value.slice.injEq] at h1;obtain ⟨rfl,rfl,rfl⟩:=h1;refine ⟨g',(hpl h3),(K2.oo g' (by rw [hov];rfl)).2.2.1,fun _=>rfl,fun j u hu=>?_,rfl⟩;have hjl:j<ol.length*2:=by
    have:=(List.getElem?_eq_some_iff.1 hu).1;rw [xr] at this;exact this
   exact (World.ownsRow.cellAt hold j hjl).trans hu
 subst hg5;have hBg:w.heap.size+1≠m.gm:=by have:=HK.out.mem.lt;omega
 have hbx:w.heap.size≠m.gm:=by have:=HK.out.mem.lt;omega
 have hl16:=K2.oll;have HK2:Hid _:=K2;have HZ:Hid _:=hz;have hseq:SeqStopsK Fence.wide (6-1) Tryz.prog 106 #[PT (w.heap.size+1) 0] (Fy (L:=h.mem.length)) (KpB v2.heap.size m.gm) (fun xs=>xs=zs) (fun _=>True) ol.length v2:=fun l J Jx W hW hJ hJx hY h0=>by
  have hcB:=Below.cell2 hW (ab q2 0 rfl) (by omega);exact Fz Fence.wide (6-1) trivial rfl (by omega) l (w.heap.size+1) v2.heap.size g m.gm ol.length oc h.mem.length oa hg3 ol zs HZ.out rfl hl16 hg1 hg2 (by omega) hBg J Jx hY W hcB (fun j u hu=>Below.cell2 hW (hg4 j u hu) hg1) h0
 refine wpIn_rangeFunc_ownH rfl (by omega) (gf:=106) (lb:=#[PT (w.heap.size+1) 0]) rfl trivial (fun args u=>by kernel_rfl) hseq
  (fun h1 h2=>h1.trans h2) (fun W l o o' hl hW ho1 ho2=>⟨by simp [World.putObj],fun i hi hn=>World.putObj_heap_other (by omega)⟩) brf (fun _=>rfl)
  (fun pre W=>Blk 5 W m.gm (tM h.mem pre)∧Kp (fun i=>i=m.gm) v2 W) (fun _ _ _=>False) ?hI (fun _ _ _ _ _ hs _ _=>hs) ⟨HK2.out.mem,Kp.refl _ _⟩
  (fun x a' W=>∃Bx,v2.heap.size<=Bx∧W.heap[Bx]?=some (.cells #[VU (x.1.2.1:Int),VU x.1.2.2] 188 (0,0))∧a'={ tmps:=#[PT m.b 18,PT w.heap.size 0,undef,PT Bx 0,PT m.b 18,PT m.b 18,PT m.b 19,.slice oa ol.length oc,.func (.func 106) #[] #[PT (w.heap.size+1) 0],VI (x.1.1:Int),.agg #[VU (x.1.2.1:Int),VU x.1.2.2],undef,undef,undef,undef,undef,undef,undef,undef,undef],defers:=[] }) ?hAx ?assign ?body ?done ?stop
 case hI=>
  rintro s W W' row ⟨h1,h2⟩ hg hr;refine ⟨?_,?_⟩
  ·have:W'.heap[m.gm]?=W.heap[m.gm]?:=hg.block m.gm h1.lt (fun e=>by have:=(hr _ e.symm).1;omega);unfold Blk at *;rw [this,h1]
  ·exact ⟨hg.os.trans h2.os,hg.tape.trans h2.tape,hg.output.trans h2.output,Nat.le_trans h2.size hg.size,fun i hi hn=>(hg.block i (ltl hi h2.size) (fun e=>by have:=(hr _ e.symm).1;omega)).trans (h2.block i hi hn)⟩
 case hAx=>
  rintro x a' s W W' row ⟨Bx,h1,h2,h3⟩ hg hr;refine ⟨Bx,h1,?_,h3⟩;rw [hg.block Bx (hpl h2) (fun e=>by
   obtain ⟨_,o,ho,hc⟩:=hr _ e.symm;rw [h2] at ho;cases ho;cases hc),h2]
 case assign=>
  rintro l pre x W K ⟨hi1,hi2⟩ hK;unfold Fy;have A:=bF W #[VU (x.1.2.1:Int),VU x.1.2.2] 188;have hsz:=hi2.size
  gi_wp2
  refine hK _ _ ((KeepsOthers.alloc _ _).from _) ⟨A.2.2.size,fun i hi hn=>A.2.2.block i (by omega)⟩ ⟨Blk.keep hi1 A.2.2 hi1.lt,hi2.trans (Kp.of_below _ A.2.2)⟩ ⟨W.heap.size,hsz,A.1,rfl⟩
 case body=>
  rintro l pre x a' W hl hrc ⟨hi1,hi2⟩ ⟨Bx,hB1,hB2,rfl⟩ hlt;have hsz:=hi2.size;have d0:=ab hB2 0 (v:=VU (x.1.2.1:Int)) rfl;have d1:=ab hB2 1 (v:=VU x.1.2.2) rfl;have e1:=ab (hi2.heap q1 hbx) 0 (v:=PT m.b 18) rfl;have e18:=ab (hi2.heap HK2.out.blk HK2.out.bm) 18 (v:=SL m.gm h.mem.length h.mem.length) rfl;have hW1:Hid (Calls Tryz.prog 76 #[SL m.gm h.mem.length h.mem.length,VU (x.1.2.1:Int),VU x.1.2.2] W fun e w'=>e=.returned (.tuple #[])∧Blk 5 w' m.gm ((tM h.mem pre).set x.1.2.1 (x.1.2.2%256))∧W.grownBy w' (some m.gm)):=
   nX m.gm h.mem.length h.mem.length x.1.2.1 (tM h.mem pre) x.1.2.2 W hi1 (yj _ _) x.2.1 (by have:=HK2.out.len;omega) x.2.2.1 (by have:=x.2.2.2;omega)
  have HB1:=hid hi1;have HB2:=hid hi2;clear hi1 hi2 hrc hseq
  gi_wp2
  have D0:=fun (u:HasC [((AD w.heap.size 0),PT m.b 18),((AD m.b 18),SL m.gm h.mem.length h.mem.length),((AD Bx 0),VU (x.1.2.1:Int)),((AD Bx 1),VU x.1.2.2)])=>u.h ((AD w.heap.size 0),PT m.b 18) (by simp);have n8:=eF W;have hxl:w.heap.size<W.heap.size:=by omega
  have hbl:m.b<W.heap.size:=by omega
  have hBl:=(hpl hB2);have E1:=aM e1 hxl;have E18:=aM e18 hbl;have E0:=aM d0 hBl;have E2:=aM d1 hBl;clear D0 e1 e18 d0 d1 hB2;refine qk (C:=fun w'=>∃u:Lies W,w'=u.w) 8 (by kernel_rfl) (by kernel_rfl) rfl (by kernel_rfl) ⟨⟨W.drew,(brf).drew⟩,rfl⟩ ?_;simp only [List.take_succ_cons,List.take_zero];repeat (go_big_quiet_step (fail))
  refine wpQuiet_nil ?_;rintro _ ⟨u,rfl⟩;have n3:=u.h;generalize u.w=W2 at n3 |-;refine Cp 8 rfl (by kernel_rfl) (by kernel_rfl) (f:=76) (args:=#[SL m.gm h.mem.length h.mem.length,VU (x.1.2.1:Int),VU x.1.2.2]) (by kernel_rfl) ?_;refine (nX m.gm h.mem.length h.mem.length x.1.2.1 (tM h.mem pre) x.1.2.2 W2 (Blk.keep HB1.out n3 (Blk.lt HB1.out)) (yj _ _) x.2.1 (by have:=HK2.out.len;omega) x.2.2.1 (by have:=x.2.2.2;omega)).mono ?_;rintro e W3 ⟨rfl,hm5,hg5⟩;refine ⟨_,rfl,?_⟩;have hgl:=HK2.out.mem.lt;refine ⟨(KeepsFrom.of_grownBy (row:=none) ⟨n3.os,n3.tape,n3.output,n3.size,fun i hi _=>n3.block i hi⟩ (fun j e=>by cases e)).trans (KeepsFrom.of_grownBy hg5 (fun j e=>by cases e;exact hgl)),⟨Nat.le_trans n3.size hg5.size,fun i hi hn=>?_⟩,?_,?_⟩
  ·rw [hg5.block i (by have:=n3.size;omega) (by simpa using hn),n3.block i (by omega)]
  ·rw [BV];have he:x.1.2.2%256=x.1.2.2:=by have:=x.2.2;omega
   rw [he] at hm5;exact hm5
  ·exact (HB2.out.trans (Kp.of_below _ n3)).trans (Kp.of_gb hg5 rfl)
 case done=>
  rintro D ys W hD rfl ⟨h1,h2⟩ hK
  gi_wp2
  refine ⟨by simp,.inl ⟨_,_,rfl,run_takeDeferred hK,?_⟩⟩;refine ⟨_,results_none rfl _ _ _,rfl,?_,?_⟩
  ·rw [<-DQ HZ.out h.mem];have:(W.putObj D (.deferred none)).heap[m.gm]?=W.heap[m.gm]?:=World.putObj_heap_other (by omega);unfold Blk at *;rw [this,h1]
  ·refine (((Kp.of_below (fun i=>i=m.gm) q4).trans h2).trans' (O':=fun i=>i=D) (Kp.of_gb (grownBy_putObj' W D (.deferred none)) rfl) (fun i hi e=>?_));have:=q4.size;omega
 case stop=>
  rintro D c pre W _ _ hh;exact hh.elim
end
theorem Cl {O X:Nat->Prop} {m:MP} {ov:Value} {h:HartM} {ol:List (Nat × Int)} (w:World) (k:MW w O X m ov h ol):
 Calls Tryz.prog 56 #[PT m.b 18] w fun e w'=>e=.returned (.tuple #[])∧∃ov',MW w' O X m ov' h []∧w.grownBy w' (some m.b):=by
 have HK:Hid _:=k;obtain ⟨on,oc,oa,hov⟩:=k.sh;have c19:=ab k.blk 19 (v:=ov) rfl;have f19:=ap k.blk 19;have hold:=k.old;rw [hov] at c19 hold;have HOv:Hid _:=hov;clear k hov;have hsh:(oa=none∧on=0∧oc=0)∨∃g,oa=some (AD g 0)∧oc<=9223372036854775807:=by
  rcases hold.2 with ⟨h1,h2⟩ | ⟨g,cap,cur,h1,h2,h3,h4,h5,h6⟩
  ·simp only [Value.slice.injEq] at h1;exact .inl ⟨h1.1,h1.2.1,h1.2.2⟩
  ·simp only [Value.slice.injEq] at h1;exact .inr ⟨g,h1.1,by rw [h1.2.2];unfold maxLen at h5;exact h5⟩
 have fin:∀V:Value,(∃n c a,V=.slice a n c)->(∀g,V.ownBlock=some g->ov.ownBlock=some g)->w.ownsRow 0 188 2 V 0 []->∃ov',MW (w.setCell (AD m.b 19) V) O X m ov' h []∧w.grownBy (w.setCell (AD m.b 19) V) (some m.b):=by
  intro V hsV hV hoV;have g:=au (ao w (some m.b)) 19 V;have K:=HK.out;have hk:Kp (fun i=>i=m.b) w (w.setCell (AD m.b 19) V):=Kp.of_gb g rfl;refine ⟨V,⟨bq K.blk,hk.blk K.mem (Ne.symm K.bm),hk.own hoV fun g e=>(K.oo g (hV g e)).2.1,K.ob,K.om,fun g e=>K.oo g (hV g e),K.bm,K.xb,K.xm,fun i hi=>⟨(K.xo i hi).1,ltl (K.xo i hi).2 g.size⟩,K.byt,K.len,K.regs,by simp,hsV,fun i hi=>ltl (K.obd i hi) g.size,by simp⟩,g⟩
 have HFin:Hid _:=fin;clear fin;rcases hsh with ⟨rfl,rfl,rfl⟩ | ⟨g,rfl,hoc⟩
 ·go_enter Tryz.func56,Tryz.ntmps56;go_wp2;go_end0;exact ⟨rfl,HFin.out _ ⟨_,_,_,rfl⟩ (fun g e=>by simp [Value.ownBlock] at e) (World.ownsRow_nil _ _ _ _)⟩
 ·have ho0:w.ownsRow 0 188 2 (SL g 0 oc) 0 []:=by
   rcases hold.2 with ⟨h1,h2⟩ | ⟨g',cap,cur,h1,h2,h3,h4,h5,h6⟩
   ·simp at h1
   ·simp only [Value.slice.injEq,Option.some.injEq,Addr.mk.injEq] at h1;obtain ⟨⟨rfl,_⟩,_,rfl⟩:=h1;exact ⟨by simp,.inr ⟨_,_,cur,rfl,h2,h3,Nat.zero_le _,h5,h6.1,by simp⟩⟩
  have HO0:=hid ho0;have hon:on<=oc:=by
   rcases hold.2 with ⟨h1,h2⟩ | ⟨g',cap,cur,h1,h2,h3,h4,h5,h6⟩
   ·simp at h1
   ·simp only [Value.slice.injEq] at h1;omega
  clear hold ho0;go_enter Tryz.func56,Tryz.ntmps56;go_wp2;go_end0;exact ⟨rfl,HFin.out (SL g 0 oc) ⟨_,_,_,rfl⟩ (fun g' e=>by rw [HOv.out];exact e) HO0.out⟩
theorem Eb {w:World} {b i:Nat} {C:Array Value} {T:TypeId} {v:Value} (x:Int) (h:w.heap[b]?=some (.cells C T (0,0))) (hv:C[i]?=some v):(Instr.storeAt 33 (PT b i) (VU x)).run Tryz.prog w=.ok () (w.setCell (AD b i) (VU x)):=by
 have c:=ab h i hv;have f:=ap h i;go_simp
theorem AP {w:World} {b i:Nat} {C:Array Value} {T:TypeId} {v:Value} (x:Int) (h:w.heap[b]?=some (.cells C T (0,0))) (hv:C[i]?=some v):(Instr.storeAt 2 (PT b i) (VI x)).run Tryz.prog w=.ok () (w.setCell (AD b i) (VI x)):=by
 have c:=ab h i hv;have f:=ap h i;go_simp
theorem FJ {O X:Nat->Prop} {m:MP} {ov:Value} {h:HartM} {ol:List (Nat × Int)} (c t:Int) (w:World) (k:MW w O X m ov h ol):
 Calls Tryz.prog 59 #[PT m.b 0,.agg #[VI c,VU t]] w fun e w'=>e=.returned (.tuple #[])∧MW w' O X m ov ⟨h.mem,h.regs,h.tvec,2,h.sum,h.mxr,h.satp,h.tvec,h.pc,h.mode,c,t,h.k⟩ ol∧Kp (fun i=>i=m.b) w w':=by
 have HK:Hid _:=k;have hb:=k.lt;have hbk:=k.blk;clear k;obtain ⟨b,hbm⟩:∃b,m.b=b:=⟨_,rfl⟩;have HBm:Hid _:=hbm;rw [hbm] at hb hbk |-;clear hbm;obtain ⟨v1,Ev1,F⟩:=ax1 w #[VI c,VU t] 92;go_enter Tryz.func59,Tryz.ntmps59;go_upto_region 1 with fail;rw [Ev1.out];clear Ev1;obtain ⟨f1,f2,n1⟩:=F;have HB1:Hid (v1.heap[b]?=some (.cells (cJ h m.gm ov m.gi m.gd m.gp m.pv) 90 (0,0))):=ae hbk n1 hb;have HF1:Hid _:=f1;have HN1:Hid _:=n1;have nbw:w.heap.size≠b:=by omega
 clear f1 f2 n1 hbk;have N1:Hid (Kp (fun i=>i=b) w v1):=Kp.of_below _ HN1.out;have HBd:Hid (v1.drew.heap[b]?=some _):=HB1;have HFd:Hid (v1.drew.heap[w.heap.size]?=some _):=HF1;have J0:∀u:HasC [((AD b 8),VU h.pc),((AD b 9),VI h.mode)],u.w.cell? (AD b 8)=some (VU h.pc):=fun u=>u.h ((AD b 8),VU h.pc) (by simp);have J1:∀u:HasC [((AD b 8),VU h.pc),((AD b 9),VI h.mode)],u.w.cell? (AD b 9)=some (VI h.mode):=fun u=>u.h ((AD b 9),VI h.mode) (by simp);have g0:∃u:HasC [((AD b 8),VU h.pc),((AD b 9),VI h.mode)],v1.drew=u.w:=⟨⟨v1.drew,by
  intro q hq;simp only [List.mem_cons,List.not_mem_nil,or_false] at hq;rcases hq with rfl | rfl
  ·exact ab HBd.out 8 rfl
  ·exact ab HBd.out 9 rfl
  ⟩,rfl⟩
 have g1:∃u:HasC [((AD b 8),VU h.pc),((AD b 9),VI h.mode)],(v1.drew.setCell (AD b 14) (VU h.pc))=u.w:=⟨⟨(v1.drew.setCell (AD b 14) (VU h.pc)),by
  intro q hq;simp only [List.mem_cons,List.not_mem_nil,or_false] at hq;rcases hq with rfl | rfl
  ·exact ab (bq (v:=VU h.pc) (i:=14) HBd.out) 8 rfl
  ·exact ab (bq (v:=VU h.pc) (i:=14) HBd.out) 9 rfl
  ⟩,rfl⟩
 have ne:Nonempty (HasC [((AD b 8),VU h.pc),((AD b 9),VI h.mode)]):=let ⟨u,_⟩:=g0;⟨u⟩
 have HB2:Hid _:=bq (v:=VI h.mode) (i:=15) (bq (v:=VU h.pc) (i:=14) HBd.out);have hgs:=au (au (ao v1.drew (some b)) 14 (VU h.pc)) 15 (VI h.mode);have HF2:Hid _:=aA HFd.out hgs nbw;have N2:Hid (Kp (fun i=>i=b) w ((v1.drew.setCell (AD b 14) (VU h.pc)).setCell (AD b 15) (VI h.mode))):=(N1.out.trans (Kp.of_below _ (brf).drew)).trans (Kp.of_gb hgs rfl);refine ax (fun w'=>∃u:HasC [((AD b 8),VU h.pc),((AD b 9),VI h.mode)],w'=u.w) 15 ?_;refine eO (fuel:=4) g0 [0,1,2,3,4,5,6,7,8,9,10,11] ?_;simp only [gh,List.getElem?_toArray,List.getElem?_cons_zero,List.getElem?_cons_succ];repeat (go_big_quiet_step (fail))
 refine wpQuiet_nil ?_;refine dz 12 15 9 (T:=33) (b:=b) (off:=14) (V:=VU h.pc) (w':=v1.drew.setCell (AD b 14) (VU h.pc)) rfl (Eb _ HBd.out rfl) ?_ (hS:=.inr g1);refine eO (fuel:=1) g1 [13,14] ?_;simp only [gh,List.getElem?_toArray,List.getElem?_cons_zero,List.getElem?_cons_succ];repeat (go_big_quiet_step (fail))
 refine wpQuiet_nil ?_;refine dz 15 17 13 (T:=2) (b:=b) (off:=15) (V:=VI h.mode) (w':=(v1.drew.setCell (AD b 14) (VU h.pc)).setCell (AD b 15) (VI h.mode)) rfl (AP _ (bq HBd.out) rfl) ?_;refine dc ?_;clear g0 g1 ne hgs J0 J1 HBd HFd;generalize ((v1.drew.setCell (AD b 14) (VU h.pc)).setCell (AD b 15) (VI h.mode))=v2 at HB2 HF2 N2 |-;go_upto_region 2 with fail;have HBd:Hid (v2.drew.heap[b]?=some _):=HB2;have HFd:Hid (v2.drew.heap[w.heap.size]?=some _):=HF2;have J0:∀u:HasC [((AD w.heap.size 0),VI c),((AD w.heap.size 1),VU t)],u.w.cell? (AD w.heap.size 0)=some (VI c):=fun u=>u.h ((AD w.heap.size 0),VI c) (by simp);have J1:∀u:HasC [((AD w.heap.size 0),VI c),((AD w.heap.size 1),VU t)],u.w.cell? (AD w.heap.size 1)=some (VU t):=fun u=>u.h ((AD w.heap.size 1),VU t) (by simp);have g0:∃u:HasC [((AD w.heap.size 0),VI c),((AD w.heap.size 1),VU t)],v2.drew=u.w:=⟨⟨v2.drew,by
  intro q hq;simp only [List.mem_cons,List.not_mem_nil,or_false] at hq;rcases hq with rfl | rfl
  ·exact ab HFd.out 0 rfl
  ·exact ab HFd.out 1 rfl
  ⟩,rfl⟩
 have g1:∃u:HasC [((AD w.heap.size 0),VI c),((AD w.heap.size 1),VU t)],(v2.drew.setCell (AD b 16) (VI c))=u.w:=⟨⟨(v2.drew.setCell (AD b 16) (VI c)),by
  intro q hq;simp only [List.mem_cons,List.not_mem_nil,or_false] at hq;rcases hq with rfl | rfl
  ·exact ab (aA HFd.out (au (ao v2.drew (some b)) 16 (VI c)) nbw) 0 rfl
  ·exact ab (aA HFd.out (au (ao v2.drew (some b)) 16 (VI c)) nbw) 1 rfl
  ⟩,rfl⟩
 have ne:Nonempty (HasC [((AD w.heap.size 0),VI c),((AD w.heap.size 1),VU t)]):=let ⟨u,_⟩:=g0;⟨u⟩
 have HB3:Hid _:=bq (v:=VU t) (i:=17) (bq (v:=VI c) (i:=16) HBd.out);have hgs:=au (au (ao v2.drew (some b)) 16 (VI c)) 17 (VU t);have HF3:Hid _:=aA HFd.out hgs nbw;have N3:Hid (Kp (fun i=>i=b) w ((v2.drew.setCell (AD b 16) (VI c)).setCell (AD b 17) (VU t))):=(N2.out.trans (Kp.of_below _ (brf).drew)).trans (Kp.of_gb hgs rfl);refine ax (fun w'=>∃u:HasC [((AD w.heap.size 0),VI c),((AD w.heap.size 1),VU t)],w'=u.w) 11 ?_;refine eO (fuel:=4) g0 [0,1,2,3,4,5,6,7] ?_;simp only [gh,List.getElem?_toArray,List.getElem?_cons_zero,List.getElem?_cons_succ];repeat (go_big_quiet_step (fail))
 refine wpQuiet_nil ?_;refine dz 8 25 21 (T:=2) (b:=b) (off:=16) (V:=VI c) (w':=v2.drew.setCell (AD b 16) (VI c)) rfl (AP _ HBd.out rfl) ?_ (hS:=.inr g1);refine eO (fuel:=1) g1 [9,10] ?_;simp only [gh,List.getElem?_toArray,List.getElem?_cons_zero,List.getElem?_cons_succ];repeat (go_big_quiet_step (fail))
 refine wpQuiet_nil ?_;refine dz 11 27 23 (T:=33) (b:=b) (off:=17) (V:=VU t) (w':=(v2.drew.setCell (AD b 16) (VI c)).setCell (AD b 17) (VU t)) rfl (Eb _ (bq HBd.out) rfl) ?_;refine dc ?_;clear g0 g1 ne hgs J0 J1 HBd HFd;generalize ((v2.drew.setCell (AD b 16) (VI c)).setCell (AD b 17) (VU t))=v3 at HB3 HF3 N3 |-;have c13:=ab HB3.out 13 (v:=VU h.tvec) rfl;have c8:=ab HB3.out 8 (v:=VU h.pc) rfl;have c9:=ab HB3.out 9 (v:=VI h.mode) rfl;have f8:=ap HB3.out 8;have f9:=ap HB3.out 9;have HB4:Hid _:=bq (v:=VI 2) (i:=9) (bq (v:=VU h.tvec) (i:=8) HB3.out);have hgs:=au (au (ao v3 (some b)) 8 (VU h.tvec)) 9 (VI 2);have N4:Hid (Kp (fun i=>i=b) w ((v3.setCell (AD b 8) (VU h.tvec)).setCell (AD b 9) (VI 2))):=N3.out.trans (Kp.of_gb hgs rfl);clear hgs;go_wp2;go_end0;generalize (v3.setCell (AD b 8) (VU h.tvec)).setCell (AD b 9) (VI 2)=v4 at HB4 N4 |-;refine ⟨rfl,?_,N4.out⟩;have K:=HK.out;have kk:=N4.out;rw [<-HBm.out] at kk HB4;exact ⟨HB4.out,kk.blk K.mem (Ne.symm K.bm),kk.own K.old fun g e=>(K.oo g e).2.1,K.ob,K.om,K.oo,K.bm,K.xb,K.xm,fun i hi=>⟨(K.xo i hi).1,ltl (K.xo i hi).2 kk.size⟩,K.byt,K.len,K.regs,K.oll,K.sh,fun i hi=>ltl (K.obd i hi) kk.size,K.oln⟩
theorem AO:(Tryz.prog.info? 74).map (·.size)=some 18:=by kernel_rfl
theorem MW.mem' {w w':World} {O X:Nat->Prop} {m:MP} {ov:Value} {h:HartM} {ol:List (Nat × Int)} (k:MW w O X m ov h ol) (hk:Kp (fun i=>i=m.gm) w w') {mem:List Int} (hb:Blk 5 w' m.gm mem) (hl:mem.length=h.mem.length) (hm:BytM mem):MW w' O X m ov (dV h mem) ol:=by
 refine ⟨?_,hb,hk.own k.old fun g e=>(k.oo g e).2.2.1,k.ob,k.om,k.oo,k.bm,k.xb,k.xm,fun i hi=>⟨(k.xo i hi).1,ltl (k.xo i hi).2 hk.size⟩,hm,by show mem.length<=4096;rw [hl];exact k.len,k.regs,k.oll,k.sh,fun i hi=>ltl (k.obd i hi) hk.size,by show ∀o∈ol,o.1<mem.length∧_;rw [hl];exact k.oln⟩;have e:cJ (dV h mem) m.gm ov m.gi m.gd m.gp m.pv=cJ h m.gm ov m.gi m.gd m.gp m.pv:=by simp only [cJ,dV,hl]
 rw [e];exact hk.heap k.blk k.bm
theorem D8 (w:World):(binOp .eql 20 .nilIface .nilIface).run Tryz.prog w=.ok (.bool true) w:=by kernel_rfl
theorem D9 (c t:Int) (w:World):(binOp .eql 20 (.iface 92 (.agg #[VI c,VU t])) .nilIface).run Tryz.prog w=.ok (.bool false) w:=by kernel_rfl
theorem FH (c t:Int) (w:World):(Instr.typeAssert (.iface 92 (.agg #[VI c,VU t])) 20 92 true).run Tryz.prog w=.ok (.tuple #[.agg #[VI c,VU t],.bool true]) w:=by kernel_rfl
theorem vX (pb pm pt:Addr) (w:World):
 CallsD Tryz.prog 57 #[.pointer (some pb),.pointer (some pm),.pointer (some pt)] .returning w fun e u' w'=>e=.returned (.tuple #[])∧u'=.returning∧w'=w:=by
 have qe:=D8;refine callsD_of_wpS Tryz.func57 rfl fun c₀ cs hu=>?_;apply wpS_seq;apply wpS_region;simp [wpOpsS,go_sem,recoverD,hu,Tryz.ntmps57,Exit.thenS];refine wpS_of_wp ?_;simp only [Array.replicate_succ,Array.replicate_zero,List.push_toArray,List.nil_append,List.cons_append,List.append_toArray,List.setIfInBounds_toArray,List.set_cons_succ,List.set_cons_zero];go_wp2_with fail;cases c₀
 simp_all [bodyPostS,results,Tryz.results57]
theorem vY {O X:Nat->Prop} {m:MP} {ov:Value} {hx h0:HartM} {ol:List (Nat × Int)} (pb pm pt:Nat) (c t:Int) (w:World) (k:MW w O X m ov hx ol) (hun:gA ol hx.mem=h0.mem) (hby:BytM h0.mem) (hrg:h0.regs.length=8)
 (h1:w.heap[pb]?=some (.cells (gy h0) 74 (0,0))) (h2:w.heap[pm]?=some (.cells #[PT m.b 0] 68 (0,0))) (h3:w.heap[pt]?=some (.cells #[VI 0,VU 0] 92 (0,0))) (n1:¬O pb) (n2:¬O pm) (n3:¬O pt):
 CallsD Tryz.prog 57 #[PT pb 0,PT pm 0,PT pt 0] (.panicking [lz c t]) w fun e u' w'=>e=.returned (.tuple #[])∧u'=.panicking [{ lz c t with recovered:=true }]∧
  MW w' O X m ov ⟨h0.mem,h0.regs,h0.tvec,2,h0.sum,h0.mxr,h0.satp,h0.tvec,h0.pc,h0.mode,c,t,hx.k⟩ ol∧w'.heap[pt]?=some (.cells #[VI c,VU t] 92 (0,0))∧Kp (fun i=>i=m.b∨i=m.gm∨i=pt) w w':=by
 have qe:=D9 c t;have qt:=FH c t;refine callsD_of_wpS Tryz.func57 rfl fun c₀ cs hu=>?_;apply wpS_seq;apply wpS_region;simp [wpOpsS,go_sem,recoverD,hu,lz,Tryz.ntmps57,Exit.thenS];refine wpS_of_wp ?_;simp only [Array.replicate_succ,Array.replicate_zero,List.push_toArray,List.nil_append,List.cons_append,List.append_toArray,List.setIfInBounds_toArray,List.set_cons_succ,List.set_cons_zero];go_upto_region 5 with fail;obtain ⟨v1,Ev1,F⟩:=ax1 w #[VI c,VU t] 92;rw [Ev1.out];clear Ev1;obtain ⟨f1,f2,nn⟩:=F;have K1:=hid (k.low nn);have HF1:Hid _:=f1;have HN1:Hid _:=nn;have H11:=hid (ae h1 nn (hpl h1));have H21:=hid (ae h2 nn (hpl h2));have H31:=hid (ae h3 nn (hpl h3));have hptl:=(hpl h3);have hbl:=k.lt;have nO:¬O w.heap.size:=fun h=>by have:=k.obd _ h;omega
 have npm:pm≠m.b:=fun e=>n2 (e ▸ k.ob);have npt:pt≠m.b:=fun e=>n3 (e ▸ k.ob);have HOb:=k.ob;have HOm:=k.om;clear f1 f2 nn h1 h2 h3 k;have HL:Hid _:=aW (P:=Tryz.prog) (T:=74) H11.out Tryz.underlying74 rfl (by kernel_rfl);have HS:Hid _:=fq (P:=Tryz.prog) (T:=74) (o:=0) (V:=gy h0) K1.out.blk (by kernel_rfl) (by simp [gy,cJ]) (by simp [gy,Value.oneCell']);have HB2:Hid ((v1.setCells m.b 0 (gy h0).toList).heap[m.b]?=some (.cells (cJ ⟨hx.mem,h0.regs,h0.pc,h0.mode,h0.sum,h0.mxr,h0.satp,h0.tvec,h0.epc,h0.emode,h0.cause,h0.tval,hx.k⟩ m.gm ov m.gi m.gd m.gp m.pv) 90 (0,0))):=by
  have:=dn m.b (gy h0).toList 0 v1 _ _ _ K1.out.blk (by simp [gy,cJ]);exact this
 have hg2:=aH m.b (gy h0).toList 0 v1 v1 (ao v1 _);have K2:Hid _:=K1.out.put hg2 HB2.out rfl hrg;have H22:Hid _:=aA H21.out hg2 npm;have H32:Hid _:=aA H31.out hg2 npt;have HF2:Hid _:=aA HF1.out hg2 (show w.heap.size≠m.b by omega);have N2:Hid (Kp (fun i=>i=m.b∨i=m.gm∨i=pt) w (v1.setCells m.b 0 (gy h0).toList)):=(Kp.of_below _ HN1.out).trans (Kp.of_gb hg2 (.inl rfl));have cpm:=ab H21.out 0 (v:=PT m.b 0) rfl;clear HB2 hg2;obtain ⟨CA,hCA⟩:∃CA,gy h0=CA:=⟨_,rfl⟩;rw [hCA] at HL HS K2 H22 H32 HF2 N2;clear hCA;go_upto_region 6 with (first
  | ((with_reducible refine bj ?_ HL.out ?_);(exact rfl))
  | ((with_reducible refine az ?_ ?_ HS.out ?_);(exact rfl);(exact rfl)))
 generalize v1.setCells m.b 0 CA.toList=v2 at K2 H22 H32 HF2 N2 |-;clear cpm HL HS H11 H21 H31 HF1 K1 HN1;have cpm:=ab H22.out 0 (v:=PT m.b 0) rfl;go_wp2_with fail;refine (BW v2 K2.out).mono ?_;rintro e v3 ⟨rfl,hm3,hk3⟩;have hgm:∀i,¬O i->¬(i=m.gm):=fun i hi e=>hi (e ▸ HOm);have hmx:=hun;have K3:=hid (K2.out.mem' hk3 (mem:=h0.mem) (by rw [<-hmx];exact hm3) (by rw [<-hmx,yx]) hby);have H23:=Kp.hid H22 hk3 (hgm _ n2);have H33:=Kp.hid H32 hk3 (hgm _ n3);have HF3:=Kp.hid HF2 hk3 (hgm _ nO);have N3:=hid (N2.out.trans (hk3.mono fun i e=>.inr (.inl e)));clear hm3 hk3 cpm K2 H22 H32 HF2 N2;go_upto_region 7 with fail;have cpm:=ab H23.out 0 (v:=PT m.b 0) rfl;have t0:=ab HF3.out 0 (v:=VI c) rfl;have t1:=ab HF3.out 1 (v:=VU t) rfl;refine dl 4 (by kernel_rfl) (by kernel_rfl) ?_;simp only [List.take_succ_cons,List.take_zero,List.drop_succ_cons,List.drop_zero];repeat still_step
 refine wpStill_nil ?_;have Dd:=bdr v3;clear cpm t0 t1;go_wp2_with fail;refine (FJ c t v3.drew (K3.out.low Dd)).mono ?_;rintro e v4 ⟨rfl,k4,kp4⟩;have hgb:∀i,¬O i->¬(i=m.b):=fun i hi e=>hi (e ▸ HOb);have K4:Hid _:=k4;have HF4:Hid _:=kp4.heap (show v3.drew.heap[w.heap.size]?=_ from HF3.out) (hgb _ nO);have H34:Hid _:=kp4.heap (show v3.drew.heap[pt]?=_ from H33.out) (hgb _ n3);have N4:Hid (Kp (fun i=>i=m.b∨i=m.gm∨i=pt) w v4):=(N3.out.trans (Kp.of_below _ Dd)).trans (kp4.mono fun i e=>.inl e);clear k4 kp4 H23 H33 HF3 N3 K3;have t0:=ab HF4.out 0 (v:=VI c) rfl;have t1:=ab HF4.out 1 (v:=VU t) rfl;have p0:=ab H34.out 0 (v:=VI 0) rfl;have p1:=ab H34.out 1 (v:=VU 0) rfl;have q0:=ap H34.out 0;have q1:=ap H34.out 1;have nwp:w.heap.size≠pt:=by omega
 have nwp':pt≠w.heap.size:=by omega
 have g5:=au (au (ao v4 (some pt)) 0 (VI c)) 1 (VU t);have H35:Hid _:=bq (v:=VU t) (i:=1) (bq (v:=VI c) (i:=0) H34.out);have hk5:Kp (fun i=>i=pt) v4 ((v4.setCell (AD pt 0) (VI c)).setCell (AD pt 1) (VU t)):=Kp.of_gb g5 rfl;have N5:Hid (Kp (fun i=>i=m.b∨i=m.gm∨i=pt) w ((v4.setCell (AD pt 0) (VI c)).setCell (AD pt 1) (VU t))):=N4.out.trans (hk5.mono fun i e=>.inr (.inr e));have K5:Hid (MW ((v4.setCell (AD pt 0) (VI c)).setCell (AD pt 1) (VU t)) O X m ov ⟨h0.mem,h0.regs,h0.tvec,2,h0.sum,h0.mxr,h0.satp,h0.tvec,h0.pc,h0.mode,c,t,hx.k⟩ ol):=by
  have K:=K4.out;refine ⟨hk5.heap K.blk (fun e=>n3 (e ▸ K.ob)),hk5.blk K.mem (fun e=>n3 (e ▸ K.om)),hk5.own K.old fun g e e'=>n3 (e' ▸ (K.oo g e).1),K.ob,K.om,K.oo,K.bm,K.xb,K.xm,fun i hi=>⟨(K.xo i hi).1,ltl (K.xo i hi).2 hk5.size⟩,K.byt,K.len,K.regs,K.oll,K.sh,fun i hi=>ltl (K.obd i hi) hk5.size,K.oln⟩
 clear g5 hk5;go_wp2_with fail;generalize (v4.setCell (AD pt 0) (VI c)).setCell (AD pt 1) (VU t)=v5 at H35 N5 K5 |-;exact ⟨rfl,_,rfl,_,results_none rfl _ _ _,rfl,rfl,K5.out,H35.out,N5.out⟩
section
variable {P:Program} {ops:Array Oper} {Q:Exit->Act->World->Prop} {F:World->Prop} {c:Nat}
theorem uC (ns:Region.noSelect ops=true) {fuel:Nat} {w:World} (hF:F w):∀(is:List Nat) (s:Array Bool) (a:Act),(∀i∈is,∀o,ops[i]?=some o->∀x a v w,Q (.panic x) (a.put o.dst v) w->Q (.panic x) a w)->BQ ops c is s=true->
 wpQuiet P ops F (fun a'=>aV P ops Q F c fuel (un is s) a' w) (gh ops is) a->aV P ops Q F c (fuel+is.length) s a w
 | [],s,a,_,_,h=>h
 | i::is,s,a,hQ,hB,h=>by
  simp only [BQ,Bool.and_eq_true] at hB;obtain ⟨⟨⟨⟨⟨⟨h1,h2⟩,h3⟩,h4⟩,h5⟩,h6⟩,h7⟩:=hB;cases ho:ops[i]? with
  | none=>rw [ho] at h6;cases h6
  | some o=>
   rw [ho] at h6;simp only [gh,ho,wpQuiet] at h;have key:∀v,YieldsIf P ops (fun w=>∃l,Closed ops l∧l.getD i true=false∧(l.getD c false=false->F w)) o v a->wpQuiet P ops F (fun a'=>aV P ops Q F c fuel (un is (s.setIfInBounds i true)) a' w) (gh ops is) (a.put o.dst v)->aV P ops Q F c (fuel+(i::is).length) s a w:=fun v hy hn=>
    kT ho (by simpa using h4) (Region.noSelect_spec ns) (fun x a w=>hQ i (by simp) o ho x a _ w) (fuel+is.length) s a w (je h1) (Region.free_spec ho h2) (by simpa using h3) hy (fun _=>hF) (uC ns hF is _ _ (fun j hj=>hQ j (by simp [hj])) h7 hn)
   split at h
   ·rename_i hw;obtain ⟨v,hv,hn⟩:=h;refine key v (.inl ⟨hw,fun u ⟨l,l1,l2,l3⟩=>?_⟩) hn;have hFu:F u:=l3 (by
     cases hh:l.getD c false
     ·rfl
     ·have:=jO l1 _ _ h5 hh;rw [wk l2] at this;cases this)
    have hq:=hv u hFu;unfold Oper.quietAt at hq;generalize hr:(execOp a.eval o).run P u=r at hq;cases r with
    | halt x w1=>exact hq.elim
    | ok n w1=>
     obtain ⟨x,rfl⟩:=sL h6 hr;obtain ⟨rfl,rfl⟩:=hq;rfl
   ·rename_i hw;exact key undef (.inr ⟨by simpa using hw,rfl⟩) h
end
theorem mq {P:Program} {fn:Func} {t t':Array Value} {R:Ending->World->Prop} (hr:results fn t'=results fn t):∀(ds:List Deferred) (u:FrameMode) (w:World),Leaves P fn t' R ds u w->Leaves P fn t R ds u w
 | [],.returning,w,h=>by
  obtain ⟨v,h1,h2⟩:=h;rw [hr] at h1;exact ⟨v,h1,h2⟩
 | [],.panicking ch,w,h=>h
 | [],.run,w,h=>h
 | d::ds,u,w,h=>by
  obtain ⟨h1,fv,cap,f,args,h2,h3,h4⟩:=h;refine ⟨h1,fv,cap,f,args,h2,h3,h4.mono ?_⟩;intro e u' w' hh;cases e with
  | returned v=>exact mq hr ds _ _ hh
  | panicked ch=>exact mq hr ds _ _ hh
  | outgrown=>exact hh
end Go.Proofs.YthdgiakgepmabaaGreat
