import Derived.Recover
import Derived.Test.YtgnnmgfgfihljaaGreatPk31
import Derived.Defers
import Derived.Deep.Slices
import Derived.Lib.SmallJoins
import Derived.Test.YtgnnmgfgfihljaaGreatPk28
namespace Go.Proofs.YtgnnmgfgfihljaaGreat
open Go.RowKit
set_option linter.unusedVariables false
set_option maxHeartbeats 6400000
set_option maxRecDepth 20000
theorem xT:(Tryz.prog.info? 90).map (·.size)=some 18:=by kernel_rfl
theorem MW.mem' {w w':World} {O X:Nat->Prop} {m:MP} {ov:Value} {h:HartM} {ol:List (Nat × Int)} (k:MW w O X m ov h ol) (hk:Kp (fun i=>i=m.gm) w w') {mem:List Int} (hb:Blk 5 w' m.gm mem) (hl:mem.length=h.mem.length) (hm:BytM mem):MW w' O X m ov (dF h mem) ol:=by
 refine ⟨?_,hb,hk.own k.old fun g e=>(k.oo g e).2.2.1,k.ob,k.om,k.oo,k.bm,k.xb,k.xm,fun i hi=>⟨(k.xo i hi).1,Nat.lt_of_lt_of_le (k.xo i hi).2 hk.size⟩,hm,by show mem.length<=4096;rw [hl];exact k.len,k.regs,k.oll,k.sh,fun i hi=>Nat.lt_of_lt_of_le (k.obd i hi) hk.size,by show ∀o∈ol,o.1<mem.length∧_;rw [hl];exact k.oln⟩;have e:cy (dF h mem) m.gm ov m.gi m.gd m.gp m.pv=cy h m.gm ov m.gi m.gd m.gp m.pv:=by simp only [cy,dF,hl]
 rw [e];exact hk.heap k.blk k.bm
theorem Ad (w:World):(binOp .eql 20 .nilIface .nilIface).run Tryz.prog w=.ok (.bool true) w:=by kernel_rfl
theorem Ae (c t:Int) (w:World):(binOp .eql 20 (.iface 75 (.agg #[.int .i64 c,.int .u64 t])) .nilIface).run Tryz.prog w=.ok (.bool false) w:=by kernel_rfl
theorem Ba (c t:Int) (w:World):(Instr.typeAssert (.iface 75 (.agg #[.int .i64 c,.int .u64 t])) 20 75 true).run Tryz.prog w=.ok (.tuple #[.agg #[.int .i64 c,.int .u64 t],.bool true]) w:=by kernel_rfl
theorem tG (pb pm pt:Addr) (w:World):
 CallsD Tryz.prog 59 #[.pointer (some pb),.pointer (some pm),.pointer (some pt)] .returning w fun e u' w'=>e=.returned (.tuple #[])∧u'=.returning∧w'=w:=by
 have qe:=Ad;refine callsD_of_wpS Tryz.func59 rfl fun c₀ cs hu=>?_;apply wpS_seq;apply wpS_region;simp [wpOpsS,go_sem,recoverD,hu,Tryz.ntmps59,Exit.thenS];refine wpS_of_wp ?_;simp only [Array.replicate_succ,Array.replicate_zero,List.push_toArray,List.nil_append,List.cons_append,List.append_toArray,List.setIfInBounds_toArray,List.set_cons_succ,List.set_cons_zero];go_wp2_with fail;cases c₀
 simp_all [bodyPostS,results,Tryz.results59]
theorem tH {O X:Nat->Prop} {m:MP} {ov:Value} {hx h0:HartM} {ol:List (Nat × Int)} (pb pm pt:Nat) (c t:Int) (w:World) (k:MW w O X m ov hx ol) (hun:fx ol hx.mem=h0.mem) (hby:BytM h0.mem) (hrg:h0.regs.length=8)
 (h1:w.heap[pb]?=some (.cells (fq h0) 90 (0,0))) (h2:w.heap[pm]?=some (.cells #[.pointer (some ⟨m.b,0,none⟩)] 70 (0,0))) (h3:w.heap[pt]?=some (.cells #[.int .i64 0,.int .u64 0] 75 (0,0))) (n1:¬O pb) (n2:¬O pm) (n3:¬O pt):
 CallsD Tryz.prog 59 #[.pointer (some ⟨pb,0,none⟩),.pointer (some ⟨pm,0,none⟩),.pointer (some ⟨pt,0,none⟩)] (.panicking [jz c t]) w fun e u' w'=>e=.returned (.tuple #[])∧u'=.panicking [{ jz c t with recovered:=true }]∧
  MW w' O X m ov ⟨h0.mem,h0.regs,h0.tvec,2,h0.sum,h0.mxr,h0.satp,h0.tvec,h0.pc,h0.mode,c,t,hx.k⟩ ol∧w'.heap[pt]?=some (.cells #[.int .i64 c,.int .u64 t] 75 (0,0))∧Kp (fun i=>i=m.b∨i=m.gm∨i=pt) w w':=by
 have qe:=Ae c t;have qt:=Ba c t;refine callsD_of_wpS Tryz.func59 rfl fun c₀ cs hu=>?_;apply wpS_seq;apply wpS_region;simp [wpOpsS,go_sem,recoverD,hu,jz,Tryz.ntmps59,Exit.thenS];refine wpS_of_wp ?_;simp only [Array.replicate_succ,Array.replicate_zero,List.push_toArray,List.nil_append,List.cons_append,List.append_toArray,List.setIfInBounds_toArray,List.set_cons_succ,List.set_cons_zero];go_upto_region 5 with fail;have F:=bL w #[.int .i64 c,.int .u64 t] 75;generalize w.alloc (Obj.cells #[.int .i64 c,.int .u64 t] 75)=v1 at F |-;obtain ⟨f1,f2,nn⟩:=F;have K1:Hid (MW v1 O X m ov hx ol):=k.low nn;have HF1:Hid _:=f1;have HN1:Hid _:=nn;have H11:Hid (v1.heap[pb]?=some (.cells (fq h0) 90 (0,0))):=ae h1 nn (hpl h1);have H21:Hid (v1.heap[pm]?=some (.cells #[.pointer (some ⟨m.b,0,none⟩)] 70 (0,0))):=ae h2 nn (hpl h2);have H31:Hid (v1.heap[pt]?=some (.cells #[.int .i64 0,.int .u64 0] 75 (0,0))):=ae h3 nn (hpl h3);have hptl:=(hpl h3);have hbl:=k.lt;have nO:¬O w.heap.size:=fun h=>by have:=k.obd _ h;omega
 have npm:pm≠m.b:=fun e=>n2 (e ▸ k.ob);have npt:pt≠m.b:=fun e=>n3 (e ▸ k.ob);have HOb:=k.ob;have HOm:=k.om;clear f1 f2 nn h1 h2 h3 k;have HL:Hid _:=aT (P:=Tryz.prog) (T:=90) H11.out Tryz.underlying90 rfl (by kernel_rfl);have HS:Hid _:=et (P:=Tryz.prog) (T:=90) (o:=0) (V:=fq h0) K1.out.blk (by kernel_rfl) (by simp [fq,cy]) (by simp [fq,Value.oneCell']);have HB2:Hid ((v1.setCells m.b 0 (fq h0).toList).heap[m.b]?=some (.cells (cy ⟨hx.mem,h0.regs,h0.pc,h0.mode,h0.sum,h0.mxr,h0.satp,h0.tvec,h0.epc,h0.emode,h0.cause,h0.tval,hx.k⟩ m.gm ov m.gi m.gd m.gp m.pv) 106 (0,0))):=by
  have:=cQ m.b (fq h0).toList 0 v1 _ _ _ K1.out.blk (by simp [fq,cy]);exact this
 have hg2:=aM m.b (fq h0).toList 0 v1 v1 (au v1 _);have K2:Hid _:=K1.out.put hg2 HB2.out rfl hrg;have H22:Hid _:=aQ H21.out hg2 npm;have H32:Hid _:=aQ H31.out hg2 npt;have HF2:Hid _:=aQ HF1.out hg2 (show w.heap.size≠m.b by omega);have N2:Hid (Kp (fun i=>i=m.b∨i=m.gm∨i=pt) w (v1.setCells m.b 0 (fq h0).toList)):=(Kp.of_below _ HN1.out).trans (Kp.of_gb hg2 (.inl rfl));have cpm:=aa H21.out 0 (v:=.pointer (some ⟨m.b,0,none⟩)) rfl;clear HB2 hg2;obtain ⟨CA,hCA⟩:∃CA,fq h0=CA:=⟨_,rfl⟩;rw [hCA] at HL HS K2 H22 H32 HF2 N2;clear hCA;go_upto_region 6 with (first
  | ((with_reducible refine aI ?_ HL.out ?_);(exact rfl))
  | ((with_reducible refine aH ?_ ?_ HS.out ?_);(exact rfl);(exact rfl)))
 generalize v1.setCells m.b 0 CA.toList=v2 at K2 H22 H32 HF2 N2 |-;clear cpm HL HS H11 H21 H31 HF1 K1 HN1;have cpm:=aa H22.out 0 (v:=.pointer (some ⟨m.b,0,none⟩)) rfl;go_wp2_with fail;refine (yF v2 K2.out).mono ?_;rintro e v3 ⟨rfl,hm3,hk3⟩;have hgm:∀i,¬O i->¬(i=m.gm):=fun i hi e=>hi (e ▸ HOm);have hmx:fx ol hx.mem=h0.mem:=hun;have K3:Hid (MW v3 O X m ov ⟨h0.mem,h0.regs,h0.pc,h0.mode,h0.sum,h0.mxr,h0.satp,h0.tvec,h0.epc,h0.emode,h0.cause,h0.tval,hx.k⟩ ol):=K2.out.mem' hk3 (mem:=h0.mem) (by rw [<-hmx];exact hm3) (by rw [<-hmx,vo]) hby;have H23:=Kp.hid H22 hk3 (hgm _ n2);have H33:=Kp.hid H32 hk3 (hgm _ n3);have HF3:=Kp.hid HF2 hk3 (hgm _ nO);have N3:Hid (Kp (fun i=>i=m.b∨i=m.gm∨i=pt) w v3):=N2.out.trans (hk3.mono fun i e=>.inr (.inl e));clear hm3 hk3 cpm K2 H22 H32 HF2 N2;go_upto_region 7 with fail;have cpm:=aa H23.out 0 (v:=.pointer (some ⟨m.b,0,none⟩)) rfl;have t0:=aa HF3.out 0 (v:=.int .i64 c) rfl;have t1:=aa HF3.out 1 (v:=.int .u64 t) rfl;refine cY 4 (by kernel_rfl) (by kernel_rfl) ?_;simp only [List.take_succ_cons,List.take_zero,List.drop_succ_cons,List.drop_zero];repeat still_step
 refine wpStill_nil ?_;have Dd:=bdr v3;clear cpm t0 t1;go_wp2_with fail;refine (Bc c t v3.drew (K3.out.low Dd)).mono ?_;rintro e v4 ⟨rfl,k4,kp4⟩;have hgb:∀i,¬O i->¬(i=m.b):=fun i hi e=>hi (e ▸ HOb);have K4:Hid _:=k4;have HF4:Hid _:=kp4.heap (show v3.drew.heap[w.heap.size]?=_ from HF3.out) (hgb _ nO);have H34:Hid _:=kp4.heap (show v3.drew.heap[pt]?=_ from H33.out) (hgb _ n3);have N4:Hid (Kp (fun i=>i=m.b∨i=m.gm∨i=pt) w v4):=(N3.out.trans (Kp.of_below _ Dd)).trans (kp4.mono fun i e=>.inl e);clear k4 kp4 H23 H33 HF3 N3 K3;have t0:=aa HF4.out 0 (v:=.int .i64 c) rfl;have t1:=aa HF4.out 1 (v:=.int .u64 t) rfl;have p0:=aa H34.out 0 (v:=.int .i64 0) rfl;have p1:=aa H34.out 1 (v:=.int .u64 0) rfl;have q0:=aE H34.out 0;have q1:=aE H34.out 1;have nwp:w.heap.size≠pt:=by omega
 have nwp':pt≠w.heap.size:=by omega
 have g5:=ak (ak (au v4 (some pt)) 0 (.int .i64 c)) 1 (.int .u64 t);have H35:Hid _:=bq (v:=.int .u64 t) (i:=1) (bq (v:=.int .i64 c) (i:=0) H34.out);have hk5:Kp (fun i=>i=pt) v4 ((v4.setCell ⟨pt,0,none⟩ (.int .i64 c)).setCell ⟨pt,1,none⟩ (.int .u64 t)):=Kp.of_gb g5 rfl;have N5:Hid (Kp (fun i=>i=m.b∨i=m.gm∨i=pt) w ((v4.setCell ⟨pt,0,none⟩ (.int .i64 c)).setCell ⟨pt,1,none⟩ (.int .u64 t))):=N4.out.trans (hk5.mono fun i e=>.inr (.inr e));have K5:Hid (MW ((v4.setCell ⟨pt,0,none⟩ (.int .i64 c)).setCell ⟨pt,1,none⟩ (.int .u64 t)) O X m ov ⟨h0.mem,h0.regs,h0.tvec,2,h0.sum,h0.mxr,h0.satp,h0.tvec,h0.pc,h0.mode,c,t,hx.k⟩ ol):=by
  have K:=K4.out;refine ⟨hk5.heap K.blk (fun e=>n3 (e ▸ K.ob)),hk5.blk K.mem (fun e=>n3 (e ▸ K.om)),hk5.own K.old fun g e e'=>n3 (e' ▸ (K.oo g e).1),K.ob,K.om,K.oo,K.bm,K.xb,K.xm,fun i hi=>⟨(K.xo i hi).1,Nat.lt_of_lt_of_le (K.xo i hi).2 hk5.size⟩,K.byt,K.len,K.regs,K.oll,K.sh,fun i hi=>Nat.lt_of_lt_of_le (K.obd i hi) hk5.size,K.oln⟩
 clear g5 hk5;go_wp2_with fail;generalize (v4.setCell ⟨pt,0,none⟩ (.int .i64 c)).setCell ⟨pt,1,none⟩ (.int .u64 t)=v5 at H35 N5 K5 |-;exact ⟨rfl,_,rfl,_,results_none rfl _ _ _,rfl,rfl,K5.out,H35.out,N5.out⟩
section
variable {P:Program} {ops:Array Oper} {Q:Exit->Act->World->Prop} {F:World->Prop} {c:Nat}
theorem sG (ns:Region.noSelect ops=true) {fuel:Nat} {w:World} (hF:F w):∀(is:List Nat) (s:Array Bool) (a:Act),(∀i∈is,∀o,ops[i]?=some o->∀x a v w,Q (.panic x) (a.put o.dst v) w->Q (.panic x) a w)->zN ops c is s=true->
 wpQuiet P ops F (fun a'=>du P ops Q F c fuel (uO is s) a' w) (fI ops is) a->du P ops Q F c (fuel+is.length) s a w
 | [],s,a,_,_,h=>h
 | i::is,s,a,hQ,hB,h=>by
  simp only [zN,Bool.and_eq_true] at hB;obtain ⟨⟨⟨⟨⟨⟨h1,h2⟩,h3⟩,h4⟩,h5⟩,h6⟩,h7⟩:=hB;cases ho:ops[i]? with
  | none=>rw [ho] at h6;cases h6
  | some o=>
   rw [ho] at h6;simp only [fI,ho,wpQuiet] at h;have key:∀v,YieldsIf P ops (fun w=>∃l,Closed ops l∧l.getD i true=false∧(l.getD c false=false->F w)) o v a->wpQuiet P ops F (fun a'=>du P ops Q F c fuel (uO is (s.setIfInBounds i true)) a' w) (fI ops is) (a.put o.dst v)->du P ops Q F c (fuel+(i::is).length) s a w:=fun v hy hn=>
    jk ho (by simpa using h4) (Region.noSelect_spec ns) (fun x a w=>hQ i (by simp) o ho x a _ w) (fuel+is.length) s a w (gW h1) (Region.free_spec ho h2) (by simpa using h3) hy (fun _=>hF) (sG ns hF is _ _ (fun j hj=>hQ j (by simp [hj])) h7 hn)
   split at h
   ·rename_i hw;obtain ⟨v,hv,hn⟩:=h;refine key v (.inl ⟨hw,fun u ⟨l,l1,l2,l3⟩=>?_⟩) hn;have hFu:F u:=l3 (by
     cases hh:l.getD c false
     ·rfl
     ·have:=iz l1 _ _ h5 hh;rw [kS l2] at this;cases this)
    have hq:=hv u hFu;unfold Oper.quietAt at hq;generalize hr:(execOp a.eval o).run P u=r at hq;cases r with
    | halt x w1=>exact hq.elim
    | ok n w1=>
     obtain ⟨x,rfl⟩:=qA h6 hr;obtain ⟨rfl,rfl⟩:=hq;rfl
   ·rename_i hw;exact key undef (.inr ⟨by simpa using hw,rfl⟩) h
end
theorem kn {P:Program} {fn:Func} {t t':Array Value} {R:Ending->World->Prop} (hr:results fn t'=results fn t):∀(ds:List Deferred) (u:FrameMode) (w:World),Leaves P fn t' R ds u w->Leaves P fn t R ds u w
 | [],.returning,w,h=>by
  obtain ⟨v,h1,h2⟩:=h;rw [hr] at h1;exact ⟨v,h1,h2⟩
 | [],.panicking ch,w,h=>h
 | [],.run,w,h=>h
 | d::ds,u,w,h=>by
  obtain ⟨h1,fv,cap,f,args,h2,h3,h4⟩:=h;refine ⟨h1,fv,cap,f,args,h2,h3,h4.mono ?_⟩;intro e u' w' hh;cases e with
  | returned v=>exact kn hr ds _ _ hh
  | panicked ch=>exact kn hr ds _ _ hh
  | outgrown=>exact hh
section
open Go.ChangeShapes Go.WideShapes Go.RowKit Go.Joins Go.Deep
theorem wu (b off i:Nat):Addr.add ⟨b,off,none⟩ i=⟨b,off+i,none⟩:=by
 unfold Addr.add;split
 ·next h=>subst h;rfl
 ·rfl
theorem uo {w:World} {a:Addr} {es:List EntM} {n:Nat} (hn:es.length=n) (h:∀i (hi:i<es.length) j,j<6->w.cell? (a.add (i*6+j))=(gk es[i])[j]?):RowC w (some a) n 6 (az es):=by
 refine ⟨by rw [eo,hn],?_⟩;by_cases h0:n=0
 ·exact .inl h0
 ·obtain ⟨b,off,spot⟩:=a;have hc:=h 0 (by omega) 0 (by omega);have hc':w.cell? (Addr.add ⟨b,off,spot⟩ 0)=some (.bool (es[0]'(by omega)).valid):=by simpa [gk] using hc
  have hspot:spot=none:=by simpa [Addr.add] using World.cell?_spot hc'
  subst hspot;refine .inr ⟨b,off,rfl,?_,fun i v hi=>?_⟩
  ·have hc0:w.cell? ⟨b,off,none⟩=some (.bool (es[0]'(by omega)).valid):=by simpa [Addr.add] using hc'
   unfold World.cell? at hc0;split at hc0
   ·next he=>exact (hpl he)
   ·cases hc0
  ·have hlt:i<(az es).length:=(List.getElem?_eq_some_iff.1 hi).1;rw [eo] at hlt;have hq:i/6<es.length:=by omega
   have:=h (i/6) hq (i%6) (by omega);rw [<-jV es (i/6) (i%6) hq (by omega),show i/6*6+i%6=i by omega,wu,hi] at this;exact this
section
variable {H:Type} {enc:TypeId × Value->H} {P:Program} {w:World} {base:Nat} {spare:Nat->Bool} {held:Bool}
theorem sW {t:TypeId} {f0 f1 f2 f3 f4 f5:Field} {fuel:Nat} {cs:List Value} {x:DataW H × List MemPlace} (ht:P.underlying t=some (.struct #[f0,f1,f2,f3,f4,f5])) (hone:oneCellFields P #[f0,f1,f2,f3,f4,f5]=true) (hC:P.cellsOf t=6) (h:DataW.trod enc P w base spare held fuel t cs=some x):
 ∃c0 c1 c2 c3 c4 c5 y0 y1 y2 y3 y4 y5 n,cs=[c0,c1,c2,c3,c4,c5]∧DataW.trod enc P w base spare held n f0.type [c0]=some y0∧DataW.trod enc P w base spare held n f1.type [c1]=some y1∧DataW.trod enc P w base spare held n f2.type [c2]=some y2∧
  DataW.trod enc P w base spare held n f3.type [c3]=some y3∧DataW.trod enc P w base spare held n f4.type [c4]=some y4∧DataW.trod enc P w base spare held n f5.type [c5]=some y5:=by
 obtain ⟨xs,n,_,rfl,hl,hlen,hf⟩:=DataW.trod_struct ht h;rw [hC] at hl;obtain ⟨o0,k0⟩:=hone_of hone 0 f0 rfl;obtain ⟨o1,k1⟩:=hone_of hone 1 f1 rfl;obtain ⟨o2,k2⟩:=hone_of hone 2 f2 rfl;obtain ⟨o3,k3⟩:=hone_of hone 3 f3 rfl;obtain ⟨o4,k4⟩:=hone_of hone 4 f4 rfl;obtain ⟨o5,k5⟩:=hone_of hone 5 f5 rfl
 match cs,hl with
 | [c0,c1,c2,c3,c4,c5],_=>
  match xs,hlen with
  | [y0,y1,y2,y3,y4,y5],_=>
   exact ⟨c0,c1,c2,c3,c4,c5,y0,y1,y2,y3,y4,y5,n,rfl,by simpa [o0,k0] using hf 0 f0 rfl,by simpa [o1,k1] using hf 1 f1 rfl,by simpa [o2,k2] using hf 2 f2 rfl,by simpa [o3,k3] using hf 3 f3 rfl,by simpa [o4,k4] using hf 4 f4 rfl,by simpa [o5,k5] using hf 5 f5 rfl⟩
end
theorem zr {H:Type} {enc:TypeId × Value->H} {w:World} {base:Nat} {spare:Nat->Bool} {held:Bool} {fuel:Nat} {cs:List Value} {x:DataW H × List MemPlace}
 (h:DataW.trod enc Tryz.prog w base spare held fuel 219 cs=some x):∃e:EntM,cs=gk e∧dS e:=by
 obtain ⟨c0,c1,c2,c3,c4,c5,y0,y1,y2,y3,y4,y5,n,rfl,h0,h1,h2,h3,h4,h5⟩:=sW Tryz.underlying219 (by kernel_rfl) (by kernel_rfl) h;obtain ⟨b,f0,_⟩:=DataW.trod_bool Tryz.underlying4 h0;obtain ⟨l,f1,_,w1⟩:=DataW.trod_int Tryz.underlying2 h1;obtain ⟨t,f2,_,w2⟩:=DataW.trod_int Tryz.underlying24 h2;obtain ⟨a,f3,_,w3⟩:=DataW.trod_int Tryz.underlying24 h3;obtain ⟨g,f4,_⟩:=DataW.trod_bool Tryz.underlying4 h4;obtain ⟨p,f5,_,w5⟩:=DataW.trod_int Tryz.underlying24 h5;simp at f0 f1 f2 f3 f4 f5;subst f0 f1 f2 f3 f4 f5;exact ⟨⟨b,l,t,a,g,p⟩,rfl,bounds_i64 w1,bounds_u64 w2,bounds_u64 w3,bounds_u64 w5⟩
theorem yi {H:Type} {enc:TypeId × Value->H} {w:World} {base:Nat} {spare:Nat->Bool} {held:Bool} {fuel:Nat} {v:Value} {x:DataW H × List MemPlace}
 (h:DataW.trod enc Tryz.prog w base spare held fuel 25 [v]=some x):
 ∃a cap es,v=.slice a es.length cap∧RowC w a es.length 6 (az es)∧(∀e∈es,dS e)∧es.length<=cap∧(cap:Int)<=9223372036854775807:=by
 rcases open_slice Tryz.underlying25 h with ⟨hcs,_⟩ | ⟨a,len,cap,m,n,D,Pl,hcs,_,hl,hm,hmm,_,hx⟩
 ·simp at hcs;subst hcs;exact ⟨none,0,[],rfl,RowC.nil _ _ _,by simp,by simp,by simp⟩
 ·simp at hcs;subst hcs;have hlm:len<=m:=by rw [hmm];split <;> omega
  rw [show Tryz.prog.cellsOf 219=6 from by kernel_rfl] at hx;have inh:Inhabited EntM:=⟨cO⟩;obtain ⟨E,hE⟩:=choose_lt (α:=EntM) (n:=len) (p:=fun i e=>(∀j,j<6->w.cell? (a.add (i*6+j))=(gk e)[j]?)∧dS e) (fun i hi=>by
   obtain ⟨cs',h1,h2⟩:=hx i (by omega);obtain ⟨e,rfl,he⟩:=zr h2;obtain ⟨_,_,h3⟩:=World.cells?_some h1;exact ⟨e,fun j hj=>by rw [<-add_add];exact h3 j hj,he⟩)
  refine ⟨some a,cap,(List.range len).map E,by simp,uo rfl (fun i hi j hj=>?_),?_,by simpa using hl,by unfold maxLen at hm;omega⟩
  ·simp only [List.getElem_map,List.getElem_range];exact (hE i (by simpa using hi)).1 j hj
  ·intro e he;simp at he;obtain ⟨i,hi,rfl⟩:=he;exact (hE i hi).2
theorem Bt:Tryz.prog.cellsOf 27=3:=by kernel_rfl
end
section
open Go.RowKit Go.Joins Go.ChangeShapes Go.WideShapes Go.ChangeAt
def tlbIn (w:World) (t:TlbM) (a:Option Addr) (cap:Nat):Prop:=
 RowC w a t.es.length 6 (az t.es)∧(∀e∈t.es,dS e)∧(-9223372036854775808<=t.sets∧t.sets<=9223372036854775807)∧(-9223372036854775808<=t.ways∧t.ways<=9223372036854775807)∧t.es.length<=cap∧(cap:Int)<=9223372036854775807
theorem BL {α:Type} {cs:List α} (h:cs.length=3):∃c0 c1 c2,cs=[c0,c1,c2]:=by
 match cs,h with
 | [c0,c1,c2],_=>exact ⟨c0,c1,c2,rfl⟩
set_option maxRecDepth 100000 in
theorem mY {H:Type} {enc:TypeId × Value->H} {w:World} {base:Nat} {spare:Nat->Bool} {held:Bool} {fuel:Nat} {cs:List Value} {x:DataW H × List MemPlace}
 (h:DataW.trod enc Tryz.prog w base spare held fuel 27 cs=some x):∃t a cap,cs=[.int .i64 t.sets,.int .i64 t.ways,.slice a t.es.length cap]∧tlbIn w t a cap:=by
 obtain ⟨y0,y1,y2,n,_,hl,h0,h1,h2⟩:=Go.Deep.trod_struct3 Tryz.underlying27 h;rw [Bt] at hl;obtain ⟨c0,c1,c2,rfl⟩:=BL hl;have h0':DataW.trod enc Tryz.prog w base spare held n 2 [c0]=some y0:=h0;have h1':DataW.trod enc Tryz.prog w base spare held n 2 [c1]=some y1:=h1;have h2':DataW.trod enc Tryz.prog w base spare held n 25 [c2]=some y2:=h2;obtain ⟨s,f0,_,w0⟩:=DataW.trod_int Tryz.underlying2 h0';obtain ⟨y,f1,_,w1⟩:=DataW.trod_int Tryz.underlying2 h1';simp at f0 f1;subst f0 f1;obtain ⟨a,cap,es,rfl,hr,ho,hl,hm⟩:=yi h2';exact ⟨⟨s,y,es⟩,a,cap,rfl,hr,ho,bounds_i64 w0,bounds_i64 w1,hl,hm⟩
end
theorem tT (w:World):(method 428 172 (.agg #[]) "loop.example/s0051/impl.phys").run Tryz.prog w=.ok (230,.agg #[]) w:=by kernel_rfl
theorem sR (w:World):(method 428 172 (.agg #[]) "loop.example/s0051/impl.fence").run Tryz.prog w=.ok (229,.agg #[]) w:=by kernel_rfl
theorem sS (w:World):(method 428 172 (.agg #[]) "loop.example/s0051/impl.begin").run Tryz.prog w=.ok (228,.agg #[]) w:=by kernel_rfl
theorem wh (args:Array Value) (w:World):(callFunc 230 args).run Tryz.prog w=.ok (.enter 230 args) w:=by kernel_rfl
theorem tU (args:Array Value) (w:World):(callFunc 229 args).run Tryz.prog w=.ok (.enter 229 args) w:=by kernel_rfl
theorem tV (args:Array Value) (w:World):(callFunc 228 args).run Tryz.prog w=.ok (.enter 228 args) w:=by kernel_rfl
theorem wi (zs:List Int) (mode:Int) (sum mxr:Bool) (satp kind va:Int) (hk:0<=kind∧kind<=2) (hm:0<=mode∧mode<=2):
 gM zs mode sum mxr satp kind va=(if (ir zs mode sum mxr satp kind va).2=1 then 0 else if (ir zs mode sum mxr satp kind va).2=2 then dL kind else bE kind,(ir zs mode sum mxr satp kind va).1)∧((ir zs mode sum mxr satp kind va).2=1∨(ir zs mode sum mxr satp kind va).2=2∨(ir zs mode sum mxr satp kind va).2=3):=by
 have hcd:=lW zs satp va;refine ⟨?_,?_⟩
 ·unfold gM;rw [if_neg (by omega)];unfold ir;cases onM mode satp
  ·simp
  ·simp only [Bool.true_eq_false,if_false];exact wf (ce zs satp va) mode sum mxr kind va hcd
 ·unfold ir;cases onM mode satp
  ·simp
  ·simp only [Bool.true_eq_false,if_false];exact ya (ce zs satp va) mode sum mxr kind va hcd
theorem Ax (r:RunM) (sv:Value) (kind va:Int) (w:World) (hs:SrcAt w sv r.h.mem) (hr:ROk r) (hv:inU va):
 Calls Tryz.prog 230 #[.agg #[],sv,oO r.h,.int .i64 kind,.int .u64 va] w fun e w'=>e=.returned (.tuple #[.int .u64 (ir r.h.mem r.h.mode r.h.sum r.h.mxr r.h.satp kind va).1,bW (ir r.h.mem r.h.mode r.h.sum r.h.mxr r.h.satp kind va).2])∧Below w.heap.size w w':=by
 have F:=eu w #[] #[.int .i64 r.h.mode,.bool r.h.sum,.bool r.h.mxr,.int .u64 r.h.satp] 172 205;have HS:Hid _:=hs;have hsp:=hr.h.satp;obtain ⟨hv0,hv1⟩:=hv;clear hs hr;generalize r.h.mem=zs at HS |-;unfold oO;generalize r.h.satp=satp at hsp F |-;generalize r.h.mode=mode at F |-;generalize r.h.sum=sum at F |-;generalize r.h.mxr=mxr at F |-;go_enter Tryz.func230,Tryz.ntmps230;go_upto_region 1 with fail;generalize (w.alloc (Obj.cells #[] 172)).alloc (Obj.cells #[.int .i64 mode,.bool sum,.bool mxr,.int .u64 satp] 205)=v1 at F |-;obtain ⟨f1,f2,f3,n1⟩:=F;have c0:=aa f2 0 (v:=.int .i64 mode) rfl;have c1:=aa f2 1 (v:=.bool sum) rfl;have c2:=aa f2 2 (v:=.bool mxr) rfl;have c3:=aa f2 3 (v:=.int .u64 satp) rfl;have HN1:Hid _:=n1;have HC:Hid _:=ry sv zs mode sum mxr satp kind va v1 (SrcAt.keep HS.out n1) hv0 hv1 hsp.1 hsp.2;unfold dK at HC;clear f1 f2 f3 n1;go_wp2_with fail;refine Calls.mono HC.out ?_;rintro e v2 ⟨rfl,n2⟩;have HN2:Hid (Below w.heap.size w v2):=bst HN1.out n2;obtain ⟨A,hA⟩:∃A,ir zs mode sum mxr satp kind va=A:=⟨_,rfl⟩;rw [hA];have HA:Hid _:=hA;clear hA n2 c0 c1 c2 c3;go_wp2_with fail;exact bodyPost_ret (v:=.tuple #[.int .u64 A.1,bW A.2]) (by simp [results,Tryz.results230,go_sem]) rfl ⟨by rw [HA.out],HN2.out⟩
theorem zf (pick:Int) (w:World):Calls Tryz.prog 228 #[.agg #[],.int .i64 pick] w fun e w'=>e=.returned (.tuple #[])∧Below w.heap.size w w':=by
 have F:=bL w #[] 172;go_enter Tryz.func228,Tryz.ntmps228;go_wp2_with fail;exact ⟨rfl,.tuple #[],by kernel_rfl,rfl,F.2.2⟩
theorem zg (cv:Value) (w:World):Calls Tryz.prog 229 #[.agg #[],cv] w fun e w'=>e=.returned (.tuple #[])∧Below w.heap.size w w':=by
 have F:=bL w #[] 172;go_enter Tryz.func229,Tryz.ntmps229;go_wp2_with fail;exact ⟨rfl,.tuple #[],by kernel_rfl,rfl,F.2.2⟩
structure Path (m:MP) (plain:Bool) (base:Nat) (X:Nat->Prop) (PI:KM->World->Prop) (PA:Int->World->RunM->Prop):Prop where
 ok:∀pick h0,0<=pick∧pick<=255->PathOk m plain pick h0 X (PI h0.k) (PA pick)
 next:∀pick w r,PA pick w r->PI r.h.k w
 rows:∀k w,PI k w->RowsAt w base m.gi m.gd m.gp k
theorem Path.cached (m:MP) (pb base:Nat) (hd:CDist m pb) (hbp:m.b≠pb):Path m false base (cX m pb) (cI m pb base) (fun pick w r=>cA m pb base pick r.h.k w):=
 ⟨fun pick h0 hp=>uD m pb base hd hbp pick hp h0,fun pick w r h=>⟨pick,h⟩,fun k w h=>h.elim fun _ h=>h.1⟩
def pX (m:MP) (i:Nat):Prop:=i=m.gi∨i=m.gd∨i=m.gp
theorem sf {w w':World} {m:MP} {base:Nat} {k:KM} (h:RowsAt w base m.gi m.gd m.gp k) (hx:∀i,pX m i->w'.heap[i]?=w.heap[i]?):RowsAt w' base m.gi m.gd m.gp k:=
 ⟨iS h.1 (hx _ (.inl rfl)),iS h.2.1 (hx _ (.inr (.inl rfl))),iS h.2.2.1 (hx _ (.inr (.inr rfl))),h.2.2.2⟩
theorem lL {w w':World} {m:MP} {base:Nat} {k:KM} (h:RowsAt w base m.gi m.gd m.gp k) (n:Below w.heap.size w w'):RowsAt w' base m.gi m.gd m.gp k:=h.keep n
theorem Path.plain (m:MP) (base:Nat) (hpd:m.pd=172) (hpx:m.px=.agg #[]):Path m true base (pX m) (fun k w=>RowsAt w base m.gi m.gd m.gp k) (fun _ w r=>RowsAt w base m.gi m.gd m.gp r.h.k):=by
 refine ⟨fun pick h0 hp=>⟨fun w w' r h _ hx=>sf h hx,fun w w' h _ hx=>sf h hx,fun w r r' h e _ _ _=>by rw [e];exact h,?_,?_,?_⟩,fun _ _ _ h=>h,fun _ _ h=>h⟩
 ·intro w r sv kind va hA _ hs hc hr hk0 hk2 hv;rw [hpd,hpx];refine ⟨_,_,tT w,fun args u=>wh args u,?_⟩;refine (Ax r sv kind va w hs hr hv).mono ?_;rintro e w' ⟨rfl,n⟩;have h:=wi r.h.mem r.h.mode r.h.sum r.h.mxr r.h.satp kind va ⟨hk0,hk2⟩ hr.h.v.mode;refine ⟨_,_,rfl,h.2,?_,?_,Kp.of_below _ n⟩
  ·unfold be;rw [if_pos rfl];exact h.1
  ·exact lL (m:=m) hA n
 ·intro w r cv f hA _ _ _ _ _;rw [hpd,hpx];refine ⟨_,_,sR w,fun args u=>tU args u,?_⟩;exact (zg cv w).mono fun e w' h=>⟨h.1,lL (m:=m) hA h.2,Kp.of_below _ h.2⟩
 ·intro w hI _ _;rw [hpd,hpx];refine ⟨_,_,sS w,fun args u=>tV args u,?_⟩;refine (zf pick w).mono fun e w' h=>⟨h.1,?_,Kp.of_below _ h.2⟩;have e:(cC true pick h0).h.k=h0.k:=by
   unfold cC fE;rw [if_neg (by simp)];rfl
  rw [e];exact lL (m:=m) hI h.2
theorem zx (b base gi gd gp:Nat) (k:KM) (w:World) (hS:SetM w b base gi gd gp k) (hli:k.i.es.length<=1048576) (hld:k.d.es.length<=1048576) (hkl:k.p.es.length<=1048576):
 Calls Tryz.prog 64 #[.pointer (some ⟨b,20,none⟩)] w fun e w'=>(∃x,e=.returned x∧zC w.heap.size w' x k)∧Below w.heap.size w w':=by
 have HS:Hid (SetM w b base gi gd gp k):=hS;have hb:=hS.lt;have n1:=(Below.refl w.heap.size w).alloc nle (Obj.cells #[.int .i64 0,.int .i64 0,.slice none 0 0,.int .i64 0,.int .i64 0,.slice none 0 0,.int .i64 0,.int .i64 0,.slice none 0 0] 37);have H1:Hid ((w.alloc (Obj.cells #[.int .i64 0,.int .i64 0,.slice none 0 0,.int .i64 0,.int .i64 0,.slice none 0 0,.int .i64 0,.int .i64 0,.slice none 0 0] 37)).heap[w.heap.size]?=some (.cells #[.int .i64 0,.int .i64 0,.slice none 0 0,.int .i64 0,.int .i64 0,.slice none 0 0,.int .i64 0,.int .i64 0,.slice none 0 0] 37 (0,0))):=heap_alloc_new w _;have l1:w.heap.size<(w.alloc (Obj.cells #[.int .i64 0,.int .i64 0,.slice none 0 0,.int .i64 0,.int .i64 0,.slice none 0 0,.int .i64 0,.int .i64 0,.slice none 0 0] 37)).heap.size:=by simp
 have HI:Hid (∀u,Below w.heap.size w u->Calls Tryz.prog 107 #[.pointer (some ⟨b,20,none⟩)] u fun e w'=>(∃x,e=.returned x∧TlbOwn u.heap.size w' x k.i)∧Below u.heap.size u w'):=fun u hu=>by
  have S:=HS.out.keep hu;obtain ⟨c0,c1,c2⟩:=S.cellI;exact rl.1 b 20 gi k.i.es.length k.i u rfl hli S.lt (bC S.2.1.1).2.2 c0 c1 c2 (dv S.2.1.1)
 have HD:Hid (∀u,Below w.heap.size w u->Calls Tryz.prog 107 #[.pointer (some ⟨b,23,none⟩)] u fun e w'=>(∃x,e=.returned x∧TlbOwn u.heap.size w' x k.d)∧Below u.heap.size u w'):=fun u hu=>by
  have S:=HS.out.keep hu;obtain ⟨c0,c1,c2⟩:=S.cellD;exact rl.1 b 23 gd k.d.es.length k.d u rfl hld S.lt (bC S.2.1.2.1).2.2 c0 c1 c2 (dv S.2.1.2.1)
 have HP:Hid (∀u,Below w.heap.size w u->Calls Tryz.prog 108 #[.pointer (some ⟨b,26,none⟩)] u fun e w'=>(∃x,e=.returned x∧TlbOwn u.heap.size w' x k.p)∧Below u.heap.size u w'):=fun u hu=>by
  have S:=HS.out.keep hu;obtain ⟨c0,c1,c2⟩:=S.cellP;exact rl.2 b 26 gp k.p.es.length k.p u rfl hkl S.lt (bC S.2.1.2.2.1).2.2 c0 c1 c2 (dv S.2.1.2.2.1)
 have HC:Hid (∀u,Below w.heap.size w u->u.cell? ⟨b,20,none⟩=some (.int .i64 k.i.sets)):=fun u hu=>(HS.out.keep hu).cellI.1;have nb1:b≠w.heap.size:=by omega
 have nb2:w.heap.size≠b:=by omega
 clear hS;go_enter Tryz.func64,Tryz.ntmps64;go_wp2_with fail;generalize w.alloc (Obj.cells #[.int .i64 0,.int .i64 0,.slice none 0 0,.int .i64 0,.int .i64 0,.slice none 0 0,.int .i64 0,.int .i64 0,.slice none 0 0] 37)=v1 at n1 H1 l1 |-;have D1:=bdr v1;have A1:=bst n1 D1;have cb:=HC.out v1 n1;have HJ1:=ab H1 D1;go_region_held3 (fun w'=>w'.cell? ⟨b,20,none⟩=some (.int .i64 k.i.sets)) (go_keep)
  (first
  | (go_at_call 107;(with_reducible refine (HI.out v1.drew A1).mono ?_);rintro e y1 ⟨⟨x1,rfl,hx1⟩,m1⟩;have A2:=bst A1 m1;have cb1:=HC.out y1 A2;have HJ2:=ab HJ1 m1;obtain ⟨g1,e1,rfl,o1⟩:=hx1;have O1:Hid _:=o1;clear o1)
  | (go_at_call 107;(with_reducible refine (HD.out y1 A2).mono ?_);rintro e y2 ⟨⟨x2,rfl,hx2⟩,m2⟩;have A3:=bst A2 m2;have cb2:=HC.out y2 A3;have HJ3:=ab HJ2 m2;obtain ⟨g2,e2,rfl,o2⟩:=hx2;have O2:Hid _:=o2;clear o2)
  | (go_at_call 108;(with_reducible refine (HP.out y2 A3).mono ?_);rintro e y3 ⟨⟨x3,rfl,hx3⟩,m3⟩;have A4:=bst A3 m3;have cb3:=HC.out y3 A4;have HJ4:=ab HJ3 m3;obtain ⟨g3,e3,rfl,o3⟩:=hx3;have O3:Hid _:=o3;have jj:=aP HJ4.out;obtain ⟨j0,j1,j2,j3,j4,j5,j6,j7,j8⟩:=jj;have ff:=gj HJ4.out;have f0:=ff 0;have f1:=ff 1;have f2:=ff 2;have f3:=ff 3;have f4:=ff 4;have f5:=ff 5;have f6:=ff 6;have f7:=ff 7;have f8:=ff 8;clear o3 ff))
 all_goals
  go_wp2_with fail;have q1:=(bC O1.out).2;have q2:=(bC O2.out).2;have q3:=(bC O3.out).2;have z1:=m1.size;have z2:=m2.size;have z0:=D1.size;simp only at q1 q2 q3;have g9:=gb9 y3 w.heap.size;refine bodyPost_ret (v:=.agg #[.int .i64 k.i.sets,.int .i64 k.i.ways,.slice (some ⟨g1,0,none⟩) k.i.es.length e1,.int .i64 k.d.sets,.int .i64 k.d.ways,.slice (some ⟨g2,0,none⟩) k.d.es.length e2,.int .i64 k.p.sets,.int .i64 k.p.ways,.slice (some ⟨g3,0,none⟩) k.p.es.length e3]) (by simp [results,Tryz.results64,go_sem,j0,j1,j2,j3,j4,j5,j6,j7,j8]) rfl ⟨⟨_,rfl,g1,e1,g2,e2,g3,e3,rfl,?_,?_,?_,by omega,by omega,by omega⟩,zL A4 nle _ _ _ _ _ _ _ _ _⟩
  ·exact aK (bX (ag (ag O1.out m2) m3) (g9 _ _ _ _ _ _ _ _ _) (by omega)) (by omega)
  ·exact aK (bX (ag O2.out m3) (g9 _ _ _ _ _ _ _ _ _) (by omega)) (by omega)
  ·exact aK (bX O3.out (g9 _ _ _ _ _ _ _ _ _) (by omega)) (by omega)
end Go.Proofs.YtgnnmgfgfihljaaGreat
