import Derived.RangeFuncNested
import Derived.RangeFuncCalls
import Derived.OrdersIn
import Derived.TacticsIn
import Derived.RangeFuncBound
import Derived.RangeFuncLeaves
import Derived.Shelf.Abstract
import Derived.Shelf.RegionOpen
import Derived.OwnWalkIn
import Derived.TacticsInMore
import Derived.LoopNIn
import Derived.LoopIn
import Derived.Test.YtpdddbobhndbjaaGreatPk28
namespace Go.Proofs.YtpdddbobhndbjaaGreat
open Go.RowKit
set_option linter.unusedVariables false
set_option maxHeartbeats 6400000
set_option maxRecDepth 20000
section
variable {P:Program} {ops:Array Oper} {md:Region.Mode} {C:World->Prop} {l m:Nat}
def oO (ops:Array Oper):Bool:=ops.all fun o=>match o.op with | .defer _=>false | _=>true
theorem oQ (h:oO ops=true) {i:Nat} {o:Oper} (ho:ops[i]?=some o):∀c,o.op≠.defer c:=by
 intro c hc;have hm:=Array.mem_of_getElem? ho;have:=Array.all_eq_true_iff_forall_mem.1 h o hm;rw [hc] at this;cases this
theorem xg {i:Nat} {a:Act} {K:Act->Prop} {K':Act->World->Prop} {Q:Exit->Act->World->Prop} {w:World} (nd:oO ops=true) (hC:C w) (h:∀a w',C w'->K a->K' a w') (hh:qOp P ops C i K a):wpOpIn (Fence.wide.inRound l) m P ops Q i K' a w:=by
 unfold qOp at hh;unfold wpOpIn;cases ho:ops[i]? with
 | none=>rw [ho] at hh;exact h _ _ hC hh
 | some o=>
  rw [ho] at hh;simp only at hh |-;by_cases hw:Region.wanted o (yielded ops a.tmps)=true
  ·rw [if_pos hw] at hh |-;obtain ⟨v,h1,h2⟩:=hh;have h3:=h1 w hC;refine ⟨fun _ _=>trivial,?_⟩;rw [Fence.inRound_round,Oper.semAt_some l _ o (oQ nd ho)];unfold Oper.quietAt at h3;generalize (execOp a.eval o).run P w=r at h3 |-;cases r with
   | halt x w'=>exact h3.elim
   | ok nx w'=>
    cases nx <;> simp only [Oper.quietUpon] at h3
    case value u=>
     obtain ⟨e1,e2⟩:=h3;subst e1 e2;exact h _ _ hC h2
    case skip=>
     obtain ⟨e1,e2⟩:=h3;subst e1 e2;exact h _ _ hC h2
    case enter f args=>
     obtain ⟨e1,hc⟩:=h3;subst e1;refine ⟨fun hd=>by simp [Fence.wide] at hd,?_⟩;refine (CallsIn.inRound l (callsIn_wide.2 hc)).mono ?_;rintro e w'' ⟨rfl,hw''⟩;exact h _ _ hw'' h2
  ·rw [if_neg hw] at hh |-;exact ⟨fun _ _=>trivial,h _ _ hC hh⟩
theorem HeadQ.anyIn {n g:Nat} {L:Array Bool->Act->Prop} {Q:Exit->Act->World->Prop} (nd:oO ops=true) (hL:∀s a w,C w->L s a->wpAnyIn (Fence.wide.inRound l) m P md ops Q g s a w):
 ∀(f:Nat) (s:Array Bool) (a:Act) (w:World),C w->HeadQ P md ops C n L f s a->wpAnyIn (Fence.wide.inRound l) m P md ops Q (f+g) s a w
 | 0,s,a,w,hw,h=>by
  rw [Nat.zero_add];exact hL s a w hw h
 | f+1,s,a,w,hw,h=>by
  have e:f+1+g=(f+g)+1:=by omega
  rw [e];exact ⟨fun h0=>(h.1 h0).elim,fun i hi=>xg nd hw (fun a' w' hw' h'=>HeadQ.anyIn nd hL f _ a' w' hw' h') (h.2 i hi).2⟩
theorem pL {id:Nat} {Q:Exit->Act->World->Prop} {a:Act} {w:World} {lo:List Oper} (n:Nat) (hm:P.follows .mixedOrders=true) (hB:Region.lexTailB .any lo.toArray n=true) (hz:lo.length=n+1) (nd:oO lo.toArray=true) (hC:C w.drew)
 (h:wpQuiet P lo.toArray C (fun a'=>∀w',C w'->wpOpIn (Fence.wide.inRound l) m P lo.toArray Q n (fun a'' w''=>Q .normal a'' w'') a' w') (lo.take n) a):(Code.region id lo.toArray true).wpIn (Fence.wide.inRound l) m P Q a w:=by
 simp only [Region.lexTailB,Bool.and_eq_true,decide_eq_true_eq] at hB;obtain ⟨⟨⟨⟨ns,hn⟩,hs⟩,hc⟩,hx⟩:=hB;have e1:(lo.take n).length=n:=by simp;omega
 have e2:lo.toArray.size-n=1:=by simp;omega
 have i0:HeadInv .any lo.toArray n (Array.replicate lo.toArray.size false):=
  ⟨by simp,fun j oj _ hl=>(by rw [getD_replicate_false] at hl;cases hl),fun t _ ht=>getD_in (by simpa using ht) (getD_replicate_false _ _)⟩
 have hl:=HeadQ.lex (P:=P) (C:=C) (g:=lo.toArray.size-n) ns hs hc hn (lo.take n) 0 (Array.replicate lo.toArray.size false) a (fun j hj=>by
  rw [e1] at hj;simp [hj]) (by rw [e1];omega) i0 (by rw [e1];exact hx) h
 rw [e1,e2] at hl;refine wpIn_region_any hm ?_;have:=HeadQ.anyIn (l:=l) (m:=m) (Q:=Q) (g:=1) (C:=C) nd (fun s a' w' hw' hL=>by
  obtain ⟨h1,h2⟩:=hL;simp only [Region.seqB,Bool.and_eq_true,decide_eq_true_eq,List.isEmpty_iff] at h1;refine ⟨fun h0=>(by rw [h1.1] at h0;cases h0),fun i hi=>?_⟩;rw [h1.1] at hi;have hi':i=n:=by simpa using hi
  subst hi';exact wpOpIn_mono (fun a'' w'' hq=>⟨h1.2,hq⟩) (h2 w' hw')) n _ a w.drew hC hl
 rw [show n+1=lo.toArray.size by simp;omega] at this;exact this
theorem Aa {Q:Exit->Act->World->Prop} {K:Act->World->Prop} {a:Act} {w:World} (i:Nat) {o:Oper} (hi:ops[i]?=some o) (hg:o.guard=none) (nd:oO ops=true) {f:FuncId} {args:Array Value} (he:(execOp a.eval o).run P w=.ok (.enter f args) w)
 (h:Calls P f args w fun e w'=>∃x,e=.returned x∧K (a.put o.dst x) w'):wpOpIn (Fence.wide.inRound l) m P ops Q i K a w:=by
 unfold wpOpIn;simp only [hi];rw [if_pos (by simp [Region.wanted,hg])];refine ⟨fun _ _=>trivial,?_⟩;rw [Fence.inRound_round,Oper.semAt_some l _ o (oQ nd hi),he];refine ⟨fun hd=>by simp [Fence.wide] at hd,?_⟩;refine (CallsIn.inRound l (callsIn_wide.2 h)).mono ?_;rintro e w' ⟨x,rfl,hx⟩;exact hx
end
section
open Go.RowKit Go.Shelf
attribute [local go_sem] Oper.semAt_some
abbrev se (L:Nat):={ o:Nat × Nat × Int//o.2.1<L∧0<=o.2.2∧o.2.2<=255 }
def Ct {L:Nat} (x:se L):Array Value:=#[.int .i64 (x.1.1:Int),.agg #[.int .u64 (x.1.2.1:Int),.int .u64 x.1.2.2]]
def KpB (B g:Nat) (W W':World):Prop:=W.heap.size<=W'.heap.size∧∀i,i<B->i≠g->W'.heap[i]?=W.heap[i]?
theorem KpB.refl (B g:Nat) (W:World):KpB B g W W:=⟨nle,fun _ _ _=>rfl⟩
theorem KpB.trans {B g:Nat} {a b c:World} (h:KpB B g a b) (k:KpB B g b c):KpB B g a c:=⟨Nat.le_trans h.1 k.1,fun i hi hn=>(k.2 i hi hn).trans (h.2 i hi hn)⟩
theorem KpB.cell {B g:Nat} {W W':World} (h:KpB B g W W') {b o:Nat} {x:Option Value} (hc:W.cell? ⟨b,o,none⟩=x) (hb:b<B) (hg:b≠g):W'.cell? ⟨b,o,none⟩=x:=(World.cell?_of_block (h.2 b hb hg)).trans hc
def AY (L:Nat) (ol:List (Nat × Int)) (zs:List (se L)):Prop:=
 zs.length=ol.length∧∀(j:Nat) (x:se L),zs[j]?=some x->x.1.1=ol.length-1-j∧ol[ol.length-1-j]?=some x.1.2
theorem zI {L:Nat}:∀(ol:List (Nat × Int)),(∀o∈ol,o.1<L∧0<=o.2∧o.2<=255)->∃zs:List (se L),AY L ol zs:=by
 intro ol h;refine ⟨List.pmap (fun o ho=>⟨o,ho⟩) ((List.range ol.length).map fun j=>(ol.length-1-j,ol[ol.length-1-j]?.getD (0,0))) ?_,by rw [List.length_pmap,List.length_map,List.length_range],?_⟩
 ·intro o ho;obtain ⟨j,hj,rfl⟩:=List.mem_map.1 ho;have hj':=List.mem_range.1 hj;have hl:ol.length-1-j<ol.length:=by omega
  rw [List.getElem?_eq_getElem hl];exact h _ (List.getElem_mem hl)
 ·intro j x hx;obtain ⟨hj,hx'⟩:=List.getElem?_eq_some_iff.1 hx;simp only [List.length_pmap,List.length_map,List.length_range] at hj;have hl:ol.length-1-j<ol.length:=by omega
  simp only [List.getElem_pmap,List.getElem_map,List.getElem_range] at hx';rw [<-hx'];simp [hl]
theorem yD:∀(ol:List (Nat × Int)) (j:Nat) (o:Nat × Int),ol[j]?=some o->(mp ol)[j*2]?=some (.int .u64 o.1)∧(mp ol)[j*2+1]?=some (.int .u64 o.2)
 | [],j,o,h=>by simp at h
 | q::ol,0,o,h=>by
  simp only [List.getElem?_cons_zero,Option.some.injEq] at h;subst h;exact ⟨rfl,rfl⟩
 | q::ol,j+1,o,h=>by
  have ih:=yD ol j o (by simpa using h);rw [show (j+1)*2=j*2+1+1 by omega];simp only [mp];rw [show j*2+1+1+1=(j*2+1)+1+1 by omega];simpa only [List.getElem?_cons_succ] using ih
set_option maxRecDepth 100000 in
theorem Cu (F:Fence) (n:Nat) (h7:F.fn 99) (hro:F.round=none) (hn:1<=n) (l Bs B g gm len cap L:Nat) (oa:Option Addr) (hoa:0<len->oa=some ⟨g,0,none⟩) (ol:List (Nat × Int)) (zs:List (se L)) (hz:AY L ol zs) (hlen:ol.length=len) (hl16:len<=16) (hgB:g<B) (hgg:g≠gm) (hBB:Bs<B) (hBg:Bs≠gm) (J Jx:List (se L)->World->Prop)
 (hY:∀pre x W,J pre W->pre.length<len->YieldAt F (n-1) Tryz.prog l (Ct x) W fun e W'=>
   (e=.returned (.bool true)∧J (pre++[x]) W'∧KpB B gm W W')∨(e=.returned (.bool false)∧Jx (pre++[x]) W'))
 (W:World) (hBs:W.cell? ⟨Bs,0,none⟩=some (.slice oa len cap)) (hc:∀j u,(mp ol)[j]?=some u->W.cell? ⟨g,j,none⟩=some u) (h0:J [] W):
 CallsIn F n Tryz.prog 99 #[.func (.yield l) #[] #[],.pointer (some ⟨Bs,0,none⟩)] W fun e W'=>(∃v,e=.returned v)∧
  ((∃ys,ys=zs∧J ys W')∨(∃pre,True∧Jx pre W')):=by
 refine callsIn_of_wp Tryz.func99 rfl h7 ?_ hro;simp only [Tryz.ntmps99,List.size_toArray,List.length_cons,List.length_nil,Nat.reduceAdd,Nat.reduceSub,Array.replicate_succ,Array.replicate_zero,List.push_toArray,List.append_toArray,List.nil_append,List.cons_append]
 gi_wp2
 gi_loopw [3] (fun i wr=>∃k:Nat,k<=len∧i=.int .i64 ((len:Int)-1-(k:Int))∧J (zs.take k) wr∧KpB B gm W wr)
  (fun i _=>(intOf i+1).toNat)
 case atStart=>exact ⟨0,Nat.zero_le _,by simp,h0,KpB.refl _ _ _⟩
 case round=>
  obtain ⟨k,hk,rfl,hJs,hnx⟩:=hrel;have hBs':=hnx.cell hBs hBB hBg;by_cases hlt:k<len
  ·have hoe:=hoa (by omega);subst hoe;obtain ⟨x,hx⟩:∃x,zs[k]?=some x:=⟨zs[k]'(by rw [hz.1,hlen];exact hlt),List.getElem?_eq_getElem _⟩;obtain ⟨hx1,hx2⟩:=hz.2 k x hx;rw [hlen] at hx1 hx2;have hoc:=yD ol _ _ hx2;obtain ⟨fn,tmps,assign,body,hy,hR⟩:=hY _ x wr hJs (by rw [List.length_take,hz.1,hlen];omega);obtain ⟨⟨i,ad,y⟩,hxp⟩:=x;simp only at hx1 hx2 hoc;unfold Ct at hy;dsimp only at hy;have hi:(len:Int)-1-(k:Int)=(i:Int):=by omega
   have e0:wr.cell? ⟨g,i*2,none⟩=some (.int .u64 ad):=hnx.cell (hc _ _ (by rw [hx1];exact hoc.1)) hgB hgg;have e1:wr.cell? ⟨g,i*2+1,none⟩=some (.int .u64 y):=hnx.cell (hc _ _ (by rw [hx1];exact hoc.2)) hgB hgg;have hil:(i:Int)<len:=by omega
   rw [hi];have HTk:Hid (zs.take (k+1)=zs.take k++[⟨(i,ad,y),hxp⟩]):=by
    obtain ⟨hkl,hke⟩:=List.getElem?_eq_some_iff.1 hx;show _=_;rw [List.take_succ_eq_append_getElem hkl,hke]
   have HI:=hid hi;clear hx hx1 hx2 hoc hi hz hc hBs
   gi_wp2
   refine hR.mono ?_;rintro e W3 (⟨rfl,hJ3,hk3⟩ | ⟨rfl,hJx3⟩)
   ·gi_wp2
    go_roundw
    case rel=>
     refine ⟨k+1,by omega,?_,by rw [HTk.out];exact hJ3,hnx.trans hk3⟩;have:=HI.out;congr 1;omega
    case measure=>
     have:=HI.out;simp [intOf]
   ·gi_wp2
    refine bodyPost_ret (results_none rfl _ _ _) rfl ?_;exact ⟨⟨_,rfl⟩,.inr ⟨_,trivial,hJx3⟩⟩
  ·have hkl:k=len:=by omega
   have he:zs.take k=zs:=List.take_of_length_le (by rw [hz.1,hlen];omega);rw [he] at hJs;have hi:(len:Int)-1-(k:Int)= -1:=by omega
   rw [hi];clear hi he hc hBs
   gi_wp2
   go_end0;exact ⟨⟨_,rfl⟩,.inl ⟨_,rfl,hJs⟩⟩
theorem xW (sv:Value) (hs:∃n c a,sv=.slice a n c) (w:World):Calls Tryz.prog 73 #[sv] w fun e w'=>e=.returned (.func (.func 99) #[] #[.pointer (some ⟨w.heap.size,0,none⟩)])∧w'=w.alloc (.cells #[sv] 63):=by
 obtain ⟨n,c,a,rfl⟩:=hs;have hmf:∀(fn:Fn) (first cap:Array Value) (w:World),(Instr.makeFunc fn first cap).run Tryz.prog w=.ok (.func fn first cap) w:=fun _ _ _ _=>rfl;go_enter Tryz.func73,Tryz.ntmps73;go_wp2_with fail;go_ret;exact ⟨rfl,rfl⟩
def sW {L:Nat} (mem:List Int) (pre:List (se L)):List Int:=pre.foldl (fun m x=>m.set x.1.2.1 x.1.2.2) mem
theorem zJ {L:Nat} (mem:List Int) (pre:List (se L)) (x:se L):sW mem (pre++[x])=(sW mem pre).set x.1.2.1 x.1.2.2:=by simp [sW,List.foldl_append]
theorem wu {L:Nat} (mem:List Int) (pre:List (se L)):(sW mem pre).length=mem.length:=by
 induction pre generalizing mem with
 | nil=>rfl
 | cons x pre ih=>simpa [sW] using ih (mem.set x.1.2.1 x.1.2.2)
theorem tM:∀(l:List (Nat × Int)) (m:List Int),go l.reverse m=l.foldl (fun m o=>m.set o.1 o.2) m
 | [],m=>rfl
 | x::l,m=>by rw [List.reverse_cons,pE,tM l];rfl
theorem AZ {L:Nat} {ol:List (Nat × Int)} {zs:List (se L)} (h:AY L ol zs) (mem:List Int):sW mem zs=go ol mem:=by
 have e:zs.map (fun x=>x.1.2)=ol.reverse:=by
  apply List.ext_getElem?;intro j;by_cases hj:j<zs.length
  ·obtain ⟨h1,h2⟩:=h.2 j zs[j] (List.getElem?_eq_getElem hj);have hl:j<ol.length:=by rw [<-h.1];exact hj
   rw [List.getElem?_map,List.getElem?_eq_getElem hj,List.getElem?_reverse hl,h2];rfl
  ·rw [List.getElem?_eq_none (by simpa using hj),List.getElem?_eq_none (by simp [<-h.1];omega)]
 have e2:=tM (zs.map fun x=>x.1.2) mem;rw [e,List.reverse_reverse] at e2;rw [e2,<-e,List.foldl_map];rfl
set_option maxRecDepth 100000 in
theorem zK {O X:Nat->Prop} {m:MP} {ov:Value} {h:HartM} {ol:List (Nat × Int)} (w:World) (k:MW w O X m ov h ol):
 Calls Tryz.prog 52 #[.pointer (some ⟨m.b,18,none⟩)] w fun e w'=>e=.returned (.tuple #[])∧Blk 5 w' m.gm (go ol h.mem)∧Kp (fun i=>i=m.gm) w w':=by
 have HK:Hid _:=k;have hb:=k.lt;obtain ⟨on,oc,oa,hov⟩:=k.sh;have c19:=ab k.blk 19 (v:=ov) rfl;have c18:=ab k.blk 18 (v:=.slice (some ⟨m.gm,0,none⟩) h.mem.length h.mem.length) rfl;rw [hov] at c19;have F1:=bS w #[.pointer (some ⟨m.b,18,none⟩)] 151;clear k;refine (callsIn_wide (n:=6)).1 ?_;refine callsIn_of_wp_marks Tryz.func52 rfl trivial ?_;simp only [Tryz.ntmps52,List.size_toArray,List.length_cons,List.length_nil,Nat.reduceAdd,Nat.reduceSub,Array.replicate_succ,Array.replicate_zero,List.push_toArray,List.append_toArray,List.nil_append,List.cons_append]
 gi_wp2
 refine ⟨trivial,?_⟩;refine (callsIn_wide.2 (xW _ ⟨_,_,_,rfl⟩ _)).mono ?_;rintro e w' ⟨rfl,rfl⟩;obtain ⟨v2,Ev2,F2⟩:=ax2 w #[.pointer (some ⟨m.b,18,none⟩)] #[.slice oa on oc] 151 63;rw [show (w.alloc (Obj.cells #[.pointer (some ⟨m.b,18,none⟩)] 151)).heap.size=w.heap.size+1 from by simp];rw [Ev2.out];clear Ev2;obtain ⟨q1,q2,q3,q4⟩:=F2
 gi_wp2
 have K2:=HK.out.low q4;have hml:=K2.mem.lt;obtain ⟨zs,hz⟩:=zI (L:=h.mem.length) ol K2.oln;have hold:=K2.old;rw [hov] at hold;obtain ⟨g,hg1,hg2,hg3,hg4,hg5⟩:∃g,g<v2.heap.size∧g≠m.gm∧(0<ol.length->oa=some ⟨g,0,none⟩)∧(∀j u,(mp ol)[j]?=some u->v2.cell? ⟨g,j,none⟩=some u)∧on=ol.length:=by
  rcases hold.2 with ⟨h1,h2⟩ | ⟨g',cap,cur,h1,h2,h3,h4,h5,h6,h7⟩
  ·simp only [Value.slice.injEq] at h1;have:ol.length=0:=by omega
   have hnil:=List.length_eq_zero_iff.1 this;subst hnil;exact ⟨m.b,K2.lt,K2.bm,fun h=>by simp at h,fun j u hu=>by simp [mp] at hu,by omega⟩
  ·simp only [Value.slice.injEq] at h1;obtain ⟨rfl,rfl,rfl⟩:=h1;refine ⟨g',(hpl h3),(K2.oo g' (by rw [hov];rfl)).2.2.1,fun _=>rfl,fun j u hu=>?_,rfl⟩;have hjl:j<ol.length*2:=by
    have:=(List.getElem?_eq_some_iff.1 hu).1;rw [vu] at this;exact this
   exact (World.ownsRow.cellAt hold j hjl).trans hu
 subst hg5;have hBg:w.heap.size+1≠m.gm:=by have:=HK.out.mem.lt;omega
 have hbx:w.heap.size≠m.gm:=by have:=HK.out.mem.lt;omega
 have hl16:=K2.oll;have HK2:Hid _:=K2;have HZ:Hid _:=hz;have hseq:SeqStopsK Fence.wide (6-1) Tryz.prog 99 #[.pointer (some ⟨w.heap.size+1,0,none⟩)] (Ct (L:=h.mem.length)) (KpB v2.heap.size m.gm) (fun xs=>xs=zs) (fun _=>True) ol.length v2:=fun l J Jx W hW hJ hJx hY h0=>by
  have hcB:=Below.cell2 hW (ab q2 0 rfl) (by omega);exact Cu Fence.wide (6-1) trivial rfl (by omega) l (w.heap.size+1) v2.heap.size g m.gm ol.length oc h.mem.length oa hg3 ol zs HZ.out rfl hl16 hg1 hg2 (by omega) hBg J Jx hY W hcB (fun j u hu=>Below.cell2 hW (hg4 j u hu) hg1) h0
 refine wpIn_rangeFunc_ownH rfl (by omega) (gf:=99) (lb:=#[.pointer (some ⟨w.heap.size+1,0,none⟩)]) rfl trivial (fun args u=>by kernel_rfl) hseq
  (fun h1 h2=>h1.trans h2) (fun W l o o' hl hW ho1 ho2=>⟨by simp [World.putObj],fun i hi hn=>World.putObj_heap_other (by omega)⟩) (Below.refl _ _) (fun _=>rfl)
  (fun pre W=>Blk 5 W m.gm (sW h.mem pre)∧Kp (fun i=>i=m.gm) v2 W) (fun _ _ _=>False) ?hI (fun _ _ _ _ _ hs _ _=>hs) ⟨HK2.out.mem,Kp.refl _ _⟩
  (fun x a' W=>∃Bx,v2.heap.size<=Bx∧W.heap[Bx]?=some (.cells #[.int .u64 (x.1.2.1:Int),.int .u64 x.1.2.2] 156 (0,0))∧a'={ tmps:=#[.pointer (some ⟨m.b,18,none⟩),.pointer (some ⟨w.heap.size,0,none⟩),undef,.pointer (some ⟨Bx,0,none⟩),.pointer (some ⟨m.b,18,none⟩),.pointer (some ⟨m.b,18,none⟩),.pointer (some ⟨m.b,19,none⟩),.slice oa ol.length oc,.func (.func 99) #[] #[.pointer (some ⟨w.heap.size+1,0,none⟩)],.int .i64 (x.1.1:Int),.agg #[.int .u64 (x.1.2.1:Int),.int .u64 x.1.2.2],undef,undef,undef,undef,undef,undef,undef,undef,undef],defers:=[] }) ?hAx ?assign ?body ?done ?stop
 case hI=>
  rintro s W W' row ⟨h1,h2⟩ hg hr;refine ⟨?_,?_⟩
  ·have:W'.heap[m.gm]?=W.heap[m.gm]?:=hg.block m.gm h1.lt (fun e=>by have:=(hr _ e.symm).1;omega);unfold Blk at *;rw [this,h1]
  ·exact ⟨hg.os.trans h2.os,hg.tape.trans h2.tape,hg.output.trans h2.output,Nat.le_trans h2.size hg.size,fun i hi hn=>(hg.block i (Nat.lt_of_lt_of_le hi h2.size) (fun e=>by have:=(hr _ e.symm).1;omega)).trans (h2.block i hi hn)⟩
 case hAx=>
  rintro x a' s W W' row ⟨Bx,h1,h2,h3⟩ hg hr;refine ⟨Bx,h1,?_,h3⟩;rw [hg.block Bx (hpl h2) (fun e=>by
   obtain ⟨_,o,ho,hc⟩:=hr _ e.symm;rw [h2] at ho;cases ho;cases hc),h2]
 case assign=>
  rintro l pre x W K ⟨hi1,hi2⟩ hK;unfold Ct;have A:=bS W #[.int .u64 (x.1.2.1:Int),.int .u64 x.1.2.2] 156;have hsz:=hi2.size
  gi_wp2
  refine hK _ _ ((KeepsOthers.alloc _ _).from _) ⟨A.2.2.size,fun i hi hn=>A.2.2.block i (by omega)⟩ ⟨Blk.keep hi1 A.2.2 hi1.lt,hi2.trans (Kp.of_below _ A.2.2)⟩ ⟨W.heap.size,hsz,A.1,rfl⟩
 case body=>
  rintro l pre x a' W hl hrc ⟨hi1,hi2⟩ ⟨Bx,hB1,hB2,rfl⟩ hlt;have hsz:=hi2.size;have d0:=ab hB2 0 (v:=.int .u64 (x.1.2.1:Int)) rfl;have d1:=ab hB2 1 (v:=.int .u64 x.1.2.2) rfl;have e1:=ab (hi2.heap q1 hbx) 0 (v:=.pointer (some ⟨m.b,18,none⟩)) rfl;have e18:=ab (hi2.heap HK2.out.blk HK2.out.bm) 18 (v:=.slice (some ⟨m.gm,0,none⟩) h.mem.length h.mem.length) rfl;have hW1:Hid (Calls Tryz.prog 69 #[.slice (some ⟨m.gm,0,none⟩) h.mem.length h.mem.length,.int .u64 (x.1.2.1:Int),.int .u64 x.1.2.2] W fun e w'=>e=.returned (.tuple #[])∧Blk 5 w' m.gm ((sW h.mem pre).set x.1.2.1 (x.1.2.2%256))∧W.grownBy w' (some m.gm)):=
   mJ m.gm h.mem.length h.mem.length x.1.2.1 (sW h.mem pre) x.1.2.2 W hi1 (wu _ _) x.2.1 (by have:=HK2.out.len;omega) x.2.2.1 (by have:=x.2.2.2;omega)
  have HB1:=hid hi1;have HB2:=hid hi2;clear hi1 hi2 hrc hseq
  gi_wp2
  have D0:=fun (u:HasC [(⟨w.heap.size,0,none⟩,.pointer (some ⟨m.b,18,none⟩)),(⟨m.b,18,none⟩,.slice (some ⟨m.gm,0,none⟩) h.mem.length h.mem.length),(⟨Bx,0,none⟩,.int .u64 (x.1.2.1:Int)),(⟨Bx,1,none⟩,.int .u64 x.1.2.2)])=>u.h (⟨w.heap.size,0,none⟩,.pointer (some ⟨m.b,18,none⟩)) (by simp);have n8:=db W;have hxl:w.heap.size<W.heap.size:=by omega
  have hbl:m.b<W.heap.size:=by omega
  have hBl:=(hpl hB2);have E1:=aD e1 hxl;have E18:=aD e18 hbl;have E0:=aD d0 hBl;have E2:=aD d1 hBl;clear D0 e1 e18 d0 d1 hB2;refine pL (C:=fun w'=>∃u:Lies W,w'=u.w) 8 (by kernel_rfl) (by kernel_rfl) rfl (by kernel_rfl) ⟨⟨W.drew,(Below.refl _ _).drew⟩,rfl⟩ ?_;simp only [List.take_succ_cons,List.take_zero];repeat (go_big_quiet_step (fail))
  refine wpQuiet_nil ?_;rintro _ ⟨u,rfl⟩;have n3:=u.h;generalize u.w=W2 at n3 |-;refine Aa 8 rfl (by kernel_rfl) (by kernel_rfl) (f:=69) (args:=#[.slice (some ⟨m.gm,0,none⟩) h.mem.length h.mem.length,.int .u64 (x.1.2.1:Int),.int .u64 x.1.2.2]) (by kernel_rfl) ?_;refine (mJ m.gm h.mem.length h.mem.length x.1.2.1 (sW h.mem pre) x.1.2.2 W2 (Blk.keep HB1.out n3 (Blk.lt HB1.out)) (wu _ _) x.2.1 (by have:=HK2.out.len;omega) x.2.2.1 (by have:=x.2.2.2;omega)).mono ?_;rintro e W3 ⟨rfl,hm5,hg5⟩;refine ⟨_,rfl,?_⟩;have hgl:=HK2.out.mem.lt;refine ⟨(KeepsFrom.of_grownBy (row:=none) ⟨n3.os,n3.tape,n3.output,n3.size,fun i hi _=>n3.block i hi⟩ (fun j e=>by cases e)).trans (KeepsFrom.of_grownBy hg5 (fun j e=>by cases e;exact hgl)),⟨Nat.le_trans n3.size hg5.size,fun i hi hn=>?_⟩,?_,?_⟩
  ·rw [hg5.block i (by have:=n3.size;omega) (by simpa using hn),n3.block i (by omega)]
  ·rw [zJ];have he:x.1.2.2%256=x.1.2.2:=by have:=x.2.2;omega
   rw [he] at hm5;exact hm5
  ·exact (HB2.out.trans (Kp.of_below _ n3)).trans (Kp.of_gb hg5 rfl)
 case done=>
  rintro D ys W hD rfl ⟨h1,h2⟩ hK
  gi_wp2
  refine ⟨by simp,.inl ⟨_,_,rfl,run_takeDeferred hK,?_⟩⟩;refine ⟨_,results_none rfl _ _ _,rfl,?_,?_⟩
  ·rw [<-AZ HZ.out h.mem];have:(W.putObj D (.deferred none)).heap[m.gm]?=W.heap[m.gm]?:=World.putObj_heap_other (by omega);unfold Blk at *;rw [this,h1]
  ·refine (((Kp.of_below (fun i=>i=m.gm) q4).trans h2).trans' (O':=fun i=>i=D) (Kp.of_gb (grownBy_putObj' W D (.deferred none)) rfl) (fun i hi e=>?_));have:=q4.size;omega
 case stop=>
  rintro D c pre W _ _ hh;exact hh.elim
end
theorem zX {O X:Nat->Prop} {m:MP} {ov:Value} {h:HartM} {ol:List (Nat × Int)} (w:World) (k:MW w O X m ov h ol):
 Calls Tryz.prog 50 #[.pointer (some ⟨m.b,18,none⟩)] w fun e w'=>e=.returned (.tuple #[])∧∃ov',MW w' O X m ov' h []∧w.grownBy w' (some m.b):=by
 have HK:Hid _:=k;obtain ⟨on,oc,oa,hov⟩:=k.sh;have c19:=ab k.blk 19 (v:=ov) rfl;have f19:=ay k.blk 19;have hold:=k.old;rw [hov] at c19 hold;have HOv:Hid _:=hov;clear k hov;have hsh:(oa=none∧on=0∧oc=0)∨∃g,oa=some ⟨g,0,none⟩∧oc<=9223372036854775807:=by
  rcases hold.2 with ⟨h1,h2⟩ | ⟨g,cap,cur,h1,h2,h3,h4,h5,h6⟩
  ·simp only [Value.slice.injEq] at h1;exact .inl ⟨h1.1,h1.2.1,h1.2.2⟩
  ·simp only [Value.slice.injEq] at h1;exact .inr ⟨g,h1.1,by rw [h1.2.2];unfold maxLen at h5;exact h5⟩
 have fin:∀V:Value,(∃n c a,V=.slice a n c)->(∀g,V.ownBlock=some g->ov.ownBlock=some g)->w.ownsRow 0 156 2 V 0 []->∃ov',MW (w.setCell ⟨m.b,19,none⟩ V) O X m ov' h []∧w.grownBy (w.setCell ⟨m.b,19,none⟩ V) (some m.b):=by
  intro V hsV hV hoV;have g:=ak (aq w (some m.b)) 19 V;have K:=HK.out;have hk:Kp (fun i=>i=m.b) w (w.setCell ⟨m.b,19,none⟩ V):=Kp.of_gb g rfl;refine ⟨V,⟨bB K.blk,hk.blk K.mem (Ne.symm K.bm),hk.own hoV fun g e=>(K.oo g (hV g e)).2.1,K.ob,K.om,fun g e=>K.oo g (hV g e),K.bm,K.xb,K.xm,fun i hi=>⟨(K.xo i hi).1,Nat.lt_of_lt_of_le (K.xo i hi).2 g.size⟩,K.byt,K.len,K.regs,by simp,hsV,fun i hi=>Nat.lt_of_lt_of_le (K.obd i hi) g.size,by simp⟩,g⟩
 have HFin:Hid _:=fin;clear fin;rcases hsh with ⟨rfl,rfl,rfl⟩ | ⟨g,rfl,hoc⟩
 ·go_enter Tryz.func50,Tryz.ntmps50;go_wp2_with fail;go_end0;exact ⟨rfl,HFin.out _ ⟨_,_,_,rfl⟩ (fun g e=>by simp [Value.ownBlock] at e) (World.ownsRow_nil _ _ _ _)⟩
 ·have ho0:w.ownsRow 0 156 2 (.slice (some ⟨g,0,none⟩) 0 oc) 0 []:=by
   rcases hold.2 with ⟨h1,h2⟩ | ⟨g',cap,cur,h1,h2,h3,h4,h5,h6⟩
   ·simp at h1
   ·simp only [Value.slice.injEq,Option.some.injEq,Addr.mk.injEq] at h1;obtain ⟨⟨rfl,_⟩,_,rfl⟩:=h1;exact ⟨by simp,.inr ⟨_,_,cur,rfl,h2,h3,Nat.zero_le _,h5,h6.1,by simp⟩⟩
  have HO0:=hid ho0;have hon:on<=oc:=by
   rcases hold.2 with ⟨h1,h2⟩ | ⟨g',cap,cur,h1,h2,h3,h4,h5,h6⟩
   ·simp at h1
   ·simp only [Value.slice.injEq] at h1;omega
  clear hold ho0;go_enter Tryz.func50,Tryz.ntmps50;go_wp2_with fail;go_end0;exact ⟨rfl,HFin.out (.slice (some ⟨g,0,none⟩) 0 oc) ⟨_,_,_,rfl⟩ (fun g' e=>by rw [HOv.out];exact e) HO0.out⟩
theorem Bl {w:World} {b i:Nat} {C:Array Value} {T:TypeId} {v:Value} (x:Int) (h:w.heap[b]?=some (.cells C T (0,0))) (hv:C[i]?=some v):(Instr.storeAt 25 (.pointer (some ⟨b,i,none⟩)) (.int .u64 x)).run Tryz.prog w=.ok () (w.setCell ⟨b,i,none⟩ (.int .u64 x)):=by
 have c:=ab h i hv;have f:=ay h i;go_simp
theorem yP {w:World} {b i:Nat} {C:Array Value} {T:TypeId} {v:Value} (x:Int) (h:w.heap[b]?=some (.cells C T (0,0))) (hv:C[i]?=some v):(Instr.storeAt 2 (.pointer (some ⟨b,i,none⟩)) (.int .i64 x)).run Tryz.prog w=.ok () (w.setCell ⟨b,i,none⟩ (.int .i64 x)):=by
 have c:=ab h i hv;have f:=ay h i;go_simp
theorem CG {O X:Nat->Prop} {m:MP} {ov:Value} {h:HartM} {ol:List (Nat × Int)} (c t:Int) (w:World) (k:MW w O X m ov h ol):
 Calls Tryz.prog 53 #[.pointer (some ⟨m.b,0,none⟩),.agg #[.int .i64 c,.int .u64 t]] w fun e w'=>e=.returned (.tuple #[])∧MW w' O X m ov ⟨h.mem,h.regs,h.tvec,2,h.sum,h.mxr,h.satp,h.tvec,h.pc,h.mode,c,t,h.k⟩ ol∧Kp (fun i=>i=m.b) w w':=by
 have HK:Hid _:=k;have hb:=k.lt;have hbk:=k.blk;clear k;obtain ⟨b,hbm⟩:∃b,m.b=b:=⟨_,rfl⟩;have HBm:Hid _:=hbm;rw [hbm] at hb hbk |-;clear hbm;obtain ⟨v1,Ev1,F⟩:=ax1 w #[.int .i64 c,.int .u64 t] 79;go_enter Tryz.func53,Tryz.ntmps53;go_upto_region 1 with fail;rw [Ev1.out];clear Ev1;obtain ⟨f1,f2,n1⟩:=F;have HB1:Hid (v1.heap[b]?=some (.cells (cJ h m.gm ov m.gi m.gd m.gp m.pv) 77 (0,0))):=ae hbk n1 hb;have HF1:Hid _:=f1;have HN1:Hid _:=n1;have nbw:w.heap.size≠b:=by omega
 clear f1 f2 n1 hbk;have N1:Hid (Kp (fun i=>i=b) w v1):=Kp.of_below _ HN1.out;have HBd:Hid (v1.drew.heap[b]?=some _):=HB1;have HFd:Hid (v1.drew.heap[w.heap.size]?=some _):=HF1;have J0:∀u:HasC [(⟨b,8,none⟩,.int .u64 h.pc),(⟨b,9,none⟩,.int .i64 h.mode)],u.w.cell? ⟨b,8,none⟩=some (.int .u64 h.pc):=fun u=>u.h (⟨b,8,none⟩,.int .u64 h.pc) (by simp);have J1:∀u:HasC [(⟨b,8,none⟩,.int .u64 h.pc),(⟨b,9,none⟩,.int .i64 h.mode)],u.w.cell? ⟨b,9,none⟩=some (.int .i64 h.mode):=fun u=>u.h (⟨b,9,none⟩,.int .i64 h.mode) (by simp);have g0:∃u:HasC [(⟨b,8,none⟩,.int .u64 h.pc),(⟨b,9,none⟩,.int .i64 h.mode)],v1.drew=u.w:=⟨⟨v1.drew,by
  intro q hq;simp only [List.mem_cons,List.not_mem_nil,or_false] at hq;rcases hq with rfl | rfl
  ·exact ab HBd.out 8 rfl
  ·exact ab HBd.out 9 rfl
  ⟩,rfl⟩
 have g1:∃u:HasC [(⟨b,8,none⟩,.int .u64 h.pc),(⟨b,9,none⟩,.int .i64 h.mode)],(v1.drew.setCell ⟨b,14,none⟩ (.int .u64 h.pc))=u.w:=⟨⟨(v1.drew.setCell ⟨b,14,none⟩ (.int .u64 h.pc)),by
  intro q hq;simp only [List.mem_cons,List.not_mem_nil,or_false] at hq;rcases hq with rfl | rfl
  ·exact ab (bB (v:=.int .u64 h.pc) (i:=14) HBd.out) 8 rfl
  ·exact ab (bB (v:=.int .u64 h.pc) (i:=14) HBd.out) 9 rfl
  ⟩,rfl⟩
 have ne:Nonempty (HasC [(⟨b,8,none⟩,.int .u64 h.pc),(⟨b,9,none⟩,.int .i64 h.mode)]):=let ⟨u,_⟩:=g0;⟨u⟩
 have HB2:Hid _:=bB (v:=.int .i64 h.mode) (i:=15) (bB (v:=.int .u64 h.pc) (i:=14) HBd.out);have hgs:=ak (ak (aq v1.drew (some b)) 14 (.int .u64 h.pc)) 15 (.int .i64 h.mode);have HF2:Hid _:=aC HFd.out hgs nbw;have N2:Hid (Kp (fun i=>i=b) w ((v1.drew.setCell ⟨b,14,none⟩ (.int .u64 h.pc)).setCell ⟨b,15,none⟩ (.int .i64 h.mode))):=(N1.out.trans (Kp.of_below _ (Below.refl _ _).drew)).trans (Kp.of_gb hgs rfl);refine aN (fun w'=>∃u:HasC [(⟨b,8,none⟩,.int .u64 h.pc),(⟨b,9,none⟩,.int .i64 h.mode)],w'=u.w) 15 (by kernel_rfl) ?_;refine df (by kernel_rfl) (fuel:=4) g0 (cR fun _ _ _ _ e h=>⟨e ▸ h.1,h.2⟩) [0,1,2,3,4,5,6,7,8,9,10,11] _ _ (by kernel_rfl) ?_;simp only [gt,List.getElem?_toArray,List.getElem?_cons_zero,List.getElem?_cons_succ];repeat (go_big_quiet_step (fail))
 refine wpQuiet_nil ?_;refine bI 12 rfl (T:=25) (x:=.tmp 15) (y:=.tmp 9) (by kernel_rfl) (by kernel_rfl) (by kernel_rfl) (by kernel_rfl) (b:=b) (off:=14) (V:=.int .u64 h.pc) (w':=v1.drew.setCell ⟨b,14,none⟩ (.int .u64 h.pc)) (by kernel_rfl) (by kernel_rfl) (Bl _ HBd.out rfl) (.inr g1) ?_;refine df (by kernel_rfl) (fuel:=1) g1 (cR fun _ _ _ _ e h=>⟨e ▸ h.1,h.2⟩) [13,14] _ _ (by kernel_rfl) ?_;simp only [gt,List.getElem?_toArray,List.getElem?_cons_zero,List.getElem?_cons_succ];repeat (go_big_quiet_step (fail))
 refine wpQuiet_nil ?_;refine bI 15 rfl (T:=2) (x:=.tmp 17) (y:=.tmp 13) (by kernel_rfl) (by kernel_rfl) (by kernel_rfl) (by kernel_rfl) (b:=b) (off:=15) (V:=.int .i64 h.mode) (w':=(v1.drew.setCell ⟨b,14,none⟩ (.int .u64 h.pc)).setCell ⟨b,15,none⟩ (.int .i64 h.mode)) (by kernel_rfl) (by kernel_rfl) (yP _ (bB HBd.out) rfl) (.inl (by kernel_rfl)) ?_;refine bJ (by kernel_rfl) ?_ _;clear g0 g1 ne hgs J0 J1 HBd HFd;generalize ((v1.drew.setCell ⟨b,14,none⟩ (.int .u64 h.pc)).setCell ⟨b,15,none⟩ (.int .i64 h.mode))=v2 at HB2 HF2 N2 |-;go_upto_region 2 with fail;have HBd:Hid (v2.drew.heap[b]?=some _):=HB2;have HFd:Hid (v2.drew.heap[w.heap.size]?=some _):=HF2;have J0:∀u:HasC [(⟨w.heap.size,0,none⟩,.int .i64 c),(⟨w.heap.size,1,none⟩,.int .u64 t)],u.w.cell? ⟨w.heap.size,0,none⟩=some (.int .i64 c):=fun u=>u.h (⟨w.heap.size,0,none⟩,.int .i64 c) (by simp);have J1:∀u:HasC [(⟨w.heap.size,0,none⟩,.int .i64 c),(⟨w.heap.size,1,none⟩,.int .u64 t)],u.w.cell? ⟨w.heap.size,1,none⟩=some (.int .u64 t):=fun u=>u.h (⟨w.heap.size,1,none⟩,.int .u64 t) (by simp);have g0:∃u:HasC [(⟨w.heap.size,0,none⟩,.int .i64 c),(⟨w.heap.size,1,none⟩,.int .u64 t)],v2.drew=u.w:=⟨⟨v2.drew,by
  intro q hq;simp only [List.mem_cons,List.not_mem_nil,or_false] at hq;rcases hq with rfl | rfl
  ·exact ab HFd.out 0 rfl
  ·exact ab HFd.out 1 rfl
  ⟩,rfl⟩
 have g1:∃u:HasC [(⟨w.heap.size,0,none⟩,.int .i64 c),(⟨w.heap.size,1,none⟩,.int .u64 t)],(v2.drew.setCell ⟨b,16,none⟩ (.int .i64 c))=u.w:=⟨⟨(v2.drew.setCell ⟨b,16,none⟩ (.int .i64 c)),by
  intro q hq;simp only [List.mem_cons,List.not_mem_nil,or_false] at hq;rcases hq with rfl | rfl
  ·exact ab (aC HFd.out (ak (aq v2.drew (some b)) 16 (.int .i64 c)) nbw) 0 rfl
  ·exact ab (aC HFd.out (ak (aq v2.drew (some b)) 16 (.int .i64 c)) nbw) 1 rfl
  ⟩,rfl⟩
 have ne:Nonempty (HasC [(⟨w.heap.size,0,none⟩,.int .i64 c),(⟨w.heap.size,1,none⟩,.int .u64 t)]):=let ⟨u,_⟩:=g0;⟨u⟩
 have HB3:Hid _:=bB (v:=.int .u64 t) (i:=17) (bB (v:=.int .i64 c) (i:=16) HBd.out);have hgs:=ak (ak (aq v2.drew (some b)) 16 (.int .i64 c)) 17 (.int .u64 t);have HF3:Hid _:=aC HFd.out hgs nbw;have N3:Hid (Kp (fun i=>i=b) w ((v2.drew.setCell ⟨b,16,none⟩ (.int .i64 c)).setCell ⟨b,17,none⟩ (.int .u64 t))):=(N2.out.trans (Kp.of_below _ (Below.refl _ _).drew)).trans (Kp.of_gb hgs rfl);refine aN (fun w'=>∃u:HasC [(⟨w.heap.size,0,none⟩,.int .i64 c),(⟨w.heap.size,1,none⟩,.int .u64 t)],w'=u.w) 11 (by kernel_rfl) ?_;refine df (by kernel_rfl) (fuel:=4) g0 (cR fun _ _ _ _ e h=>⟨e ▸ h.1,h.2⟩) [0,1,2,3,4,5,6,7] _ _ (by kernel_rfl) ?_;simp only [gt,List.getElem?_toArray,List.getElem?_cons_zero,List.getElem?_cons_succ];repeat (go_big_quiet_step (fail))
 refine wpQuiet_nil ?_;refine bI 8 rfl (T:=2) (x:=.tmp 25) (y:=.tmp 21) (by kernel_rfl) (by kernel_rfl) (by kernel_rfl) (by kernel_rfl) (b:=b) (off:=16) (V:=.int .i64 c) (w':=v2.drew.setCell ⟨b,16,none⟩ (.int .i64 c)) (by kernel_rfl) (by kernel_rfl) (yP _ HBd.out rfl) (.inr g1) ?_;refine df (by kernel_rfl) (fuel:=1) g1 (cR fun _ _ _ _ e h=>⟨e ▸ h.1,h.2⟩) [9,10] _ _ (by kernel_rfl) ?_;simp only [gt,List.getElem?_toArray,List.getElem?_cons_zero,List.getElem?_cons_succ];repeat (go_big_quiet_step (fail))
 refine wpQuiet_nil ?_;refine bI 11 rfl (T:=25) (x:=.tmp 27) (y:=.tmp 23) (by kernel_rfl) (by kernel_rfl) (by kernel_rfl) (by kernel_rfl) (b:=b) (off:=17) (V:=.int .u64 t) (w':=(v2.drew.setCell ⟨b,16,none⟩ (.int .i64 c)).setCell ⟨b,17,none⟩ (.int .u64 t)) (by kernel_rfl) (by kernel_rfl) (Bl _ (bB HBd.out) rfl) (.inl (by kernel_rfl)) ?_;refine bJ (by kernel_rfl) ?_ _;clear g0 g1 ne hgs J0 J1 HBd HFd;generalize ((v2.drew.setCell ⟨b,16,none⟩ (.int .i64 c)).setCell ⟨b,17,none⟩ (.int .u64 t))=v3 at HB3 HF3 N3 |-;have c13:=ab HB3.out 13 (v:=.int .u64 h.tvec) rfl;have c8:=ab HB3.out 8 (v:=.int .u64 h.pc) rfl;have c9:=ab HB3.out 9 (v:=.int .i64 h.mode) rfl;have f8:=ay HB3.out 8;have f9:=ay HB3.out 9;have HB4:Hid _:=bB (v:=.int .i64 2) (i:=9) (bB (v:=.int .u64 h.tvec) (i:=8) HB3.out);have hgs:=ak (ak (aq v3 (some b)) 8 (.int .u64 h.tvec)) 9 (.int .i64 2);have N4:Hid (Kp (fun i=>i=b) w ((v3.setCell ⟨b,8,none⟩ (.int .u64 h.tvec)).setCell ⟨b,9,none⟩ (.int .i64 2))):=N3.out.trans (Kp.of_gb hgs rfl);clear hgs;go_wp2_with fail;go_end0;generalize (v3.setCell ⟨b,8,none⟩ (.int .u64 h.tvec)).setCell ⟨b,9,none⟩ (.int .i64 2)=v4 at HB4 N4 |-;refine ⟨rfl,?_,N4.out⟩;have K:=HK.out;have kk:=N4.out;rw [<-HBm.out] at kk HB4;exact ⟨HB4.out,kk.blk K.mem (Ne.symm K.bm),kk.own K.old fun g e=>(K.oo g e).2.1,K.ob,K.om,K.oo,K.bm,K.xb,K.xm,fun i hi=>⟨(K.xo i hi).1,Nat.lt_of_lt_of_le (K.xo i hi).2 kk.size⟩,K.byt,K.len,K.regs,K.oll,K.sh,fun i hi=>Nat.lt_of_lt_of_le (K.obd i hi) kk.size,K.oln⟩
end Go.Proofs.YtpdddbobhndbjaaGreat
