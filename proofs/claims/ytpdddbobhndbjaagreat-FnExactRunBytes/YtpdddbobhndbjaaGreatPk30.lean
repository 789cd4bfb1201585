import Derived.Recover
import Derived.Test.YtpdddbobhndbjaaGreatPk29
import Derived.Defers
import Derived.Test.YtpdddbobhndbjaaGreatPk15
import Derived.Deep.Slices
import Derived.Lib.SmallJoins
namespace Go.Proofs.YtpdddbobhndbjaaGreat
open Go.RowKit
set_option linter.unusedVariables false
set_option maxHeartbeats 6400000
set_option maxRecDepth 20000
theorem yO:(Tryz.prog.info? 61).map (·.size)=some 18:=by kernel_rfl
theorem MW.mem' {w w':World} {O X:Nat->Prop} {m:MP} {ov:Value} {h:HartM} {ol:List (Nat × Int)} (k:MW w O X m ov h ol) (hk:Kp (fun i=>i=m.gm) w w') {mem:List Int} (hb:Blk 5 w' m.gm mem) (hl:mem.length=h.mem.length) (hm:BytM mem):MW w' O X m ov (eg h mem) ol:=by
 refine ⟨?_,hb,hk.own k.old fun g e=>(k.oo g e).2.2.1,k.ob,k.om,k.oo,k.bm,k.xb,k.xm,fun i hi=>⟨(k.xo i hi).1,Nat.lt_of_lt_of_le (k.xo i hi).2 hk.size⟩,hm,by show mem.length<=4096;rw [hl];exact k.len,k.regs,k.oll,k.sh,fun i hi=>Nat.lt_of_lt_of_le (k.obd i hi) hk.size,by show ∀o∈ol,o.1<mem.length∧_;rw [hl];exact k.oln⟩;have e:cJ (eg h mem) m.gm ov m.gi m.gd m.gp m.pv=cJ h m.gm ov m.gi m.gd m.gp m.pv:=by simp only [cJ,eg,hl]
 rw [e];exact hk.heap k.blk k.bm
theorem Bi (w:World):(binOp .eql 20 .nilIface .nilIface).run Tryz.prog w=.ok (.bool true) w:=by kernel_rfl
theorem Bj (c t:Int) (w:World):(binOp .eql 20 (.iface 79 (.agg #[.int .i64 c,.int .u64 t])) .nilIface).run Tryz.prog w=.ok (.bool false) w:=by kernel_rfl
theorem CB (c t:Int) (w:World):(Instr.typeAssert (.iface 79 (.agg #[.int .i64 c,.int .u64 t])) 20 79 true).run Tryz.prog w=.ok (.tuple #[.agg #[.int .i64 c,.int .u64 t],.bool true]) w:=by kernel_rfl
theorem uG (pb pm pt:Addr) (w:World):
 CallsD Tryz.prog 51 #[.pointer (some pb),.pointer (some pm),.pointer (some pt)] .returning w fun e u' w'=>e=.returned (.tuple #[])∧u'=.returning∧w'=w:=by
 have qe:=Bi;refine callsD_of_wpS Tryz.func51 rfl fun c₀ cs hu=>?_;apply wpS_seq;apply wpS_region;simp [wpOpsS,go_sem,recoverD,hu,Tryz.ntmps51,Exit.thenS];refine wpS_of_wp ?_;simp only [Array.replicate_succ,Array.replicate_zero,List.push_toArray,List.nil_append,List.cons_append,List.append_toArray,List.setIfInBounds_toArray,List.set_cons_succ,List.set_cons_zero];go_wp2_with fail;cases c₀
 simp_all [bodyPostS,results,Tryz.results51]
theorem uH {O X:Nat->Prop} {m:MP} {ov:Value} {hx h0:HartM} {ol:List (Nat × Int)} (pb pm pt:Nat) (c t:Int) (w:World) (k:MW w O X m ov hx ol) (hun:go ol hx.mem=h0.mem) (hby:BytM h0.mem) (hrg:h0.regs.length=8)
 (h1:w.heap[pb]?=some (.cells (gc h0) 61 (0,0))) (h2:w.heap[pm]?=some (.cells #[.pointer (some ⟨m.b,0,none⟩)] 55 (0,0))) (h3:w.heap[pt]?=some (.cells #[.int .i64 0,.int .u64 0] 79 (0,0))) (n1:¬O pb) (n2:¬O pm) (n3:¬O pt):
 CallsD Tryz.prog 51 #[.pointer (some ⟨pb,0,none⟩),.pointer (some ⟨pm,0,none⟩),.pointer (some ⟨pt,0,none⟩)] (.panicking [kC c t]) w fun e u' w'=>e=.returned (.tuple #[])∧u'=.panicking [{ kC c t with recovered:=true }]∧
  MW w' O X m ov ⟨h0.mem,h0.regs,h0.tvec,2,h0.sum,h0.mxr,h0.satp,h0.tvec,h0.pc,h0.mode,c,t,hx.k⟩ ol∧w'.heap[pt]?=some (.cells #[.int .i64 c,.int .u64 t] 79 (0,0))∧Kp (fun i=>i=m.b∨i=m.gm∨i=pt) w w':=by
 have qe:=Bj c t;have qt:=CB c t;refine callsD_of_wpS Tryz.func51 rfl fun c₀ cs hu=>?_;apply wpS_seq;apply wpS_region;simp [wpOpsS,go_sem,recoverD,hu,kC,Tryz.ntmps51,Exit.thenS];refine wpS_of_wp ?_;simp only [Array.replicate_succ,Array.replicate_zero,List.push_toArray,List.nil_append,List.cons_append,List.append_toArray,List.setIfInBounds_toArray,List.set_cons_succ,List.set_cons_zero];go_upto_region 5 with fail;obtain ⟨v1,Ev1,F⟩:=ax1 w #[.int .i64 c,.int .u64 t] 79;rw [Ev1.out];clear Ev1;obtain ⟨f1,f2,nn⟩:=F;have K1:=hid (k.low nn);have HF1:Hid _:=f1;have HN1:Hid _:=nn;have H11:=hid (ae h1 nn (hpl h1));have H21:=hid (ae h2 nn (hpl h2));have H31:=hid (ae h3 nn (hpl h3));have hptl:=(hpl h3);have hbl:=k.lt;have nO:¬O w.heap.size:=fun h=>by have:=k.obd _ h;omega
 have npm:pm≠m.b:=fun e=>n2 (e ▸ k.ob);have npt:pt≠m.b:=fun e=>n3 (e ▸ k.ob);have HOb:=k.ob;have HOm:=k.om;clear f1 f2 nn h1 h2 h3 k;have HL:Hid _:=be (P:=Tryz.prog) (T:=61) H11.out Tryz.underlying61 rfl (by kernel_rfl);have HS:Hid _:=ep (P:=Tryz.prog) (T:=61) (o:=0) (V:=gc h0) K1.out.blk (by kernel_rfl) (by simp [gc,cJ]) (by simp [gc,Value.oneCell']);have HB2:Hid ((v1.setCells m.b 0 (gc h0).toList).heap[m.b]?=some (.cells (cJ ⟨hx.mem,h0.regs,h0.pc,h0.mode,h0.sum,h0.mxr,h0.satp,h0.tvec,h0.epc,h0.emode,h0.cause,h0.tval,hx.k⟩ m.gm ov m.gi m.gd m.gp m.pv) 77 (0,0))):=by
  have:=cM m.b (gc h0).toList 0 v1 _ _ _ K1.out.blk (by simp [gc,cJ]);exact this
 have hg2:=aJ m.b (gc h0).toList 0 v1 v1 (aq v1 _);have K2:Hid _:=K1.out.put hg2 HB2.out rfl hrg;have H22:Hid _:=aC H21.out hg2 npm;have H32:Hid _:=aC H31.out hg2 npt;have HF2:Hid _:=aC HF1.out hg2 (show w.heap.size≠m.b by omega);have N2:Hid (Kp (fun i=>i=m.b∨i=m.gm∨i=pt) w (v1.setCells m.b 0 (gc h0).toList)):=(Kp.of_below _ HN1.out).trans (Kp.of_gb hg2 (.inl rfl));have cpm:=ab H21.out 0 (v:=.pointer (some ⟨m.b,0,none⟩)) rfl;clear HB2 hg2;obtain ⟨CA,hCA⟩:∃CA,gc h0=CA:=⟨_,rfl⟩;rw [hCA] at HL HS K2 H22 H32 HF2 N2;clear hCA;go_upto_region 6 with (first
  | ((with_reducible refine aZ ?_ HL.out ?_);(exact rfl))
  | ((with_reducible refine aG ?_ ?_ HS.out ?_);(exact rfl);(exact rfl)))
 generalize v1.setCells m.b 0 CA.toList=v2 at K2 H22 H32 HF2 N2 |-;clear cpm HL HS H11 H21 H31 HF1 K1 HN1;have cpm:=ab H22.out 0 (v:=.pointer (some ⟨m.b,0,none⟩)) rfl;go_wp2_with fail;refine (zK v2 K2.out).mono ?_;rintro e v3 ⟨rfl,hm3,hk3⟩;have hgm:∀i,¬O i->¬(i=m.gm):=fun i hi e=>hi (e ▸ HOm);have hmx:=hun;have K3:=hid (K2.out.mem' hk3 (mem:=h0.mem) (by rw [<-hmx];exact hm3) (by rw [<-hmx,wK]) hby);have H23:=Kp.hid H22 hk3 (hgm _ n2);have H33:=Kp.hid H32 hk3 (hgm _ n3);have HF3:=Kp.hid HF2 hk3 (hgm _ nO);have N3:=hid (N2.out.trans (hk3.mono fun i e=>.inr (.inl e)));clear hm3 hk3 cpm K2 H22 H32 HF2 N2;go_upto_region 7 with fail;have cpm:=ab H23.out 0 (v:=.pointer (some ⟨m.b,0,none⟩)) rfl;have t0:=ab HF3.out 0 (v:=.int .i64 c) rfl;have t1:=ab HF3.out 1 (v:=.int .u64 t) rfl;refine dl 4 (by kernel_rfl) (by kernel_rfl) ?_;simp only [List.take_succ_cons,List.take_zero,List.drop_succ_cons,List.drop_zero];repeat still_step
 refine wpStill_nil ?_;have Dd:=bdr v3;clear cpm t0 t1;go_wp2_with fail;refine (CG c t v3.drew (K3.out.low Dd)).mono ?_;rintro e v4 ⟨rfl,k4,kp4⟩;have hgb:∀i,¬O i->¬(i=m.b):=fun i hi e=>hi (e ▸ HOb);have K4:Hid _:=k4;have HF4:Hid _:=kp4.heap (show v3.drew.heap[w.heap.size]?=_ from HF3.out) (hgb _ nO);have H34:Hid _:=kp4.heap (show v3.drew.heap[pt]?=_ from H33.out) (hgb _ n3);have N4:Hid (Kp (fun i=>i=m.b∨i=m.gm∨i=pt) w v4):=(N3.out.trans (Kp.of_below _ Dd)).trans (kp4.mono fun i e=>.inl e);clear k4 kp4 H23 H33 HF3 N3 K3;have t0:=ab HF4.out 0 (v:=.int .i64 c) rfl;have t1:=ab HF4.out 1 (v:=.int .u64 t) rfl;have p0:=ab H34.out 0 (v:=.int .i64 0) rfl;have p1:=ab H34.out 1 (v:=.int .u64 0) rfl;have q0:=ay H34.out 0;have q1:=ay H34.out 1;have nwp:w.heap.size≠pt:=by omega
 have nwp':pt≠w.heap.size:=by omega
 have g5:=ak (ak (aq v4 (some pt)) 0 (.int .i64 c)) 1 (.int .u64 t);have H35:Hid _:=bB (v:=.int .u64 t) (i:=1) (bB (v:=.int .i64 c) (i:=0) H34.out);have hk5:Kp (fun i=>i=pt) v4 ((v4.setCell ⟨pt,0,none⟩ (.int .i64 c)).setCell ⟨pt,1,none⟩ (.int .u64 t)):=Kp.of_gb g5 rfl;have N5:Hid (Kp (fun i=>i=m.b∨i=m.gm∨i=pt) w ((v4.setCell ⟨pt,0,none⟩ (.int .i64 c)).setCell ⟨pt,1,none⟩ (.int .u64 t))):=N4.out.trans (hk5.mono fun i e=>.inr (.inr e));have K5:Hid (MW ((v4.setCell ⟨pt,0,none⟩ (.int .i64 c)).setCell ⟨pt,1,none⟩ (.int .u64 t)) O X m ov ⟨h0.mem,h0.regs,h0.tvec,2,h0.sum,h0.mxr,h0.satp,h0.tvec,h0.pc,h0.mode,c,t,hx.k⟩ ol):=by
  have K:=K4.out;refine ⟨hk5.heap K.blk (fun e=>n3 (e ▸ K.ob)),hk5.blk K.mem (fun e=>n3 (e ▸ K.om)),hk5.own K.old fun g e e'=>n3 (e' ▸ (K.oo g e).1),K.ob,K.om,K.oo,K.bm,K.xb,K.xm,fun i hi=>⟨(K.xo i hi).1,Nat.lt_of_lt_of_le (K.xo i hi).2 hk5.size⟩,K.byt,K.len,K.regs,K.oll,K.sh,fun i hi=>Nat.lt_of_lt_of_le (K.obd i hi) hk5.size,K.oln⟩
 clear g5 hk5;go_wp2_with fail;generalize (v4.setCell ⟨pt,0,none⟩ (.int .i64 c)).setCell ⟨pt,1,none⟩ (.int .u64 t)=v5 at H35 N5 K5 |-;exact ⟨rfl,_,rfl,_,results_none rfl _ _ _,rfl,rfl,K5.out,H35.out,N5.out⟩
section
variable {P:Program} {ops:Array Oper} {Q:Exit->Act->World->Prop} {F:World->Prop} {c:Nat}
theorem tV (ns:Region.noSelect ops=true) {fuel:Nat} {w:World} (hF:F w):∀(is:List Nat) (s:Array Bool) (a:Act),(∀i∈is,∀o,ops[i]?=some o->∀x a v w,Q (.panic x) (a.put o.dst v) w->Q (.panic x) a w)->AQ ops c is s=true->
 wpQuiet P ops F (fun a'=>cB P ops Q F c fuel (vZ is s) a' w) (gt ops is) a->cB P ops Q F c (fuel+is.length) s a w
 | [],s,a,_,_,h=>h
 | i::is,s,a,hQ,hB,h=>by
  simp only [AQ,Bool.and_eq_true] at hB;obtain ⟨⟨⟨⟨⟨⟨h1,h2⟩,h3⟩,h4⟩,h5⟩,h6⟩,h7⟩:=hB;cases ho:ops[i]? with
  | none=>rw [ho] at h6;cases h6
  | some o=>
   rw [ho] at h6;simp only [gt,ho,wpQuiet] at h;have key:∀v,YieldsIf P ops (fun w=>∃l,Closed ops l∧l.getD i true=false∧(l.getD c false=false->F w)) o v a->wpQuiet P ops F (fun a'=>cB P ops Q F c fuel (vZ is (s.setIfInBounds i true)) a' w) (gt ops is) (a.put o.dst v)->cB P ops Q F c (fuel+(i::is).length) s a w:=fun v hy hn=>
    kf ho (by simpa using h4) (Region.noSelect_spec ns) (fun x a w=>hQ i (by simp) o ho x a _ w) (fuel+is.length) s a w (iN h1) (Region.free_spec ho h2) (by simpa using h3) hy (fun _=>hF) (tV ns hF is _ _ (fun j hj=>hQ j (by simp [hj])) h7 hn)
   split at h
   ·rename_i hw;obtain ⟨v,hv,hn⟩:=h;refine key v (.inl ⟨hw,fun u ⟨l,l1,l2,l3⟩=>?_⟩) hn;have hFu:F u:=l3 (by
     cases hh:l.getD c false
     ·rfl
     ·have:=jl l1 _ _ h5 hh;rw [mh l2] at this;cases this)
    have hq:=hv u hFu;unfold Oper.quietAt at hq;generalize hr:(execOp a.eval o).run P u=r at hq;cases r with
    | halt x w1=>exact hq.elim
    | ok n w1=>
     obtain ⟨x,rfl⟩:=rS h6 hr;obtain ⟨rfl,rfl⟩:=hq;rfl
   ·rename_i hw;exact key undef (.inr ⟨by simpa using hw,rfl⟩) h
end
theorem lz {P:Program} {fn:Func} {t t':Array Value} {R:Ending->World->Prop} (hr:results fn t'=results fn t):∀(ds:List Deferred) (u:FrameMode) (w:World),Leaves P fn t' R ds u w->Leaves P fn t R ds u w
 | [],.returning,w,h=>by
  obtain ⟨v,h1,h2⟩:=h;rw [hr] at h1;exact ⟨v,h1,h2⟩
 | [],.panicking ch,w,h=>h
 | [],.run,w,h=>h
 | d::ds,u,w,h=>by
  obtain ⟨h1,fv,cap,f,args,h2,h3,h4⟩:=h;refine ⟨h1,fv,cap,f,args,h2,h3,h4.mono ?_⟩;intro e u' w' hh;cases e with
  | returned v=>exact lz hr ds _ _ hh
  | panicked ch=>exact lz hr ds _ _ hh
  | outgrown=>exact hh
theorem mZ (v:Value) (t:TlbM) (w:World) (h:TlbAt w v t):
 Calls Tryz.prog 70 #[v] w fun e w'=>(∃s y l n c,e=.returned (.tuple #[.agg #[.int .i64 s,.int .i64 y,.slice l n c],.bool (aQ t false)])∧(aQ t false=true->∃g,s=t.sets∧y=t.ways∧l=some ⟨g,0,none⟩∧n=t.es.length∧c=t.es.length∧w'.ownsRow w.heap.size 190 6 (.slice (some ⟨g,0,none⟩) t.es.length t.es.length) t.es.length (aH t.es)))∧Bw w w':=by
 refine (oE.1 v t w h).mono ?_;rintro e w' ⟨hc,nb⟩;refine ⟨?_,nb⟩;cases hv:aQ t false
 ·rw [hv] at hc;dsimp only [cond] at hc;exact ⟨_,_,_,_,_,hc,fun h=>by cases h⟩
 ·rw [hv] at hc;dsimp only [cond] at hc;obtain ⟨g,he,ho⟩:=hc;exact ⟨_,_,_,_,_,he,fun _=>⟨g,rfl,rfl,rfl,rfl,rfl,ho⟩⟩
theorem uc (v:Value) (t:TlbM) (w:World) (h:TlbAt w v t):
 Calls Tryz.prog 71 #[v] w fun e w'=>(∃s y l n c,e=.returned (.tuple #[.agg #[.int .i64 s,.int .i64 y,.slice l n c],.bool (aQ t true)])∧(aQ t true=true->∃g,s=t.sets∧y=t.ways∧l=some ⟨g,0,none⟩∧n=t.es.length∧c=t.es.length∧w'.ownsRow w.heap.size 195 6 (.slice (some ⟨g,0,none⟩) t.es.length t.es.length) t.es.length (aH t.es)))∧Bw w w':=by
 refine (oE.2 v t w h).mono ?_;rintro e w' ⟨hc,nb⟩;refine ⟨?_,nb⟩;cases hv:aQ t true
 ·rw [hv] at hc;dsimp only [cond] at hc;exact ⟨_,_,_,_,_,hc,fun h=>by cases h⟩
 ·rw [hv] at hc;dsimp only [cond] at hc;obtain ⟨g,he,ho⟩:=hc;exact ⟨_,_,_,_,_,he,fun _=>⟨g,rfl,rfl,rfl,rfl,rfl,ho⟩⟩
def Af (base:Nat) (w:World) (e:Ending) (k:KM):Prop:=∃gi gd gp,e=.returned (.tuple #[.agg (gP k gi gd gp),.bool true])∧RowsAt w base gi gd gp k
theorem qQ (v:Value) (k:KM) (w:World) (h:KAt w v k):
 Calls Tryz.prog 45 #[v] w fun e w'=>cond (bW k) (Af w.heap.size w' e k) (e=.returned (.tuple #[.agg #[.int .i64 0,.int .i64 0,.slice none 0 0,.int .i64 0,.int .i64 0,.slice none 0 0,.int .i64 0,.int .i64 0,.slice none 0 0],.bool false]))∧Bw w w':=by
 obtain ⟨a1,c1,a2,c2,a3,c3,rfl,T1,T2,T3⟩:=h;obtain ⟨q1,hq1⟩:∃q,aQ k.i false=q:=⟨_,rfl⟩;obtain ⟨q2,hq2⟩:∃q,aQ k.d false=q:=⟨_,rfl⟩;obtain ⟨q3,hq3⟩:∃q,aQ k.p true=q:=⟨_,rfl⟩;have HQ1:=hid hq1;have HQ2:=hid hq2;have HQ3:=hid hq3;have hgood:bW k=(q1 && q2 && q3):=by unfold bW;rw [hq1,hq2,hq3]
 rw [hgood];clear hgood hq1 hq2 hq3;have HT1:=hid fun u (hu:Bw w u)=>T1.keep hu;have HT2:=hid fun u (hu:Bw w u)=>T2.keep hu;have HT3:=hid fun u (hu:Bw w u)=>T3.keep hu;clear T1 T2 T3;have n1:=((Below.refl w.heap.size w).alloc nle (Obj.cells #[.int .i64 k.i.sets,.int .i64 k.i.ways,.slice a1 k.i.es.length c1,.int .i64 k.d.sets,.int .i64 k.d.ways,.slice a2 k.d.es.length c2,.int .i64 k.p.sets,.int .i64 k.p.ways,.slice a3 k.p.es.length c3] 39)).alloc (by simp) (Obj.cells #[.int .i64 0,.int .i64 0,.slice none 0 0,.int .i64 0,.int .i64 0,.slice none 0 0,.int .i64 0,.int .i64 0,.slice none 0 0] 73);have H1:Hid (((w.alloc (Obj.cells #[.int .i64 k.i.sets,.int .i64 k.i.ways,.slice a1 k.i.es.length c1,.int .i64 k.d.sets,.int .i64 k.d.ways,.slice a2 k.d.es.length c2,.int .i64 k.p.sets,.int .i64 k.p.ways,.slice a3 k.p.es.length c3] 39)).alloc (Obj.cells #[.int .i64 0,.int .i64 0,.slice none 0 0,.int .i64 0,.int .i64 0,.slice none 0 0,.int .i64 0,.int .i64 0,.slice none 0 0] 73)).heap[w.heap.size]?=some (.cells #[.int .i64 k.i.sets,.int .i64 k.i.ways,.slice a1 k.i.es.length c1,.int .i64 k.d.sets,.int .i64 k.d.ways,.slice a2 k.d.es.length c2,.int .i64 k.p.sets,.int .i64 k.p.ways,.slice a3 k.p.es.length c3] 39 (0,0))):=by
  exact (jw w _ _ _ _).1
 have H2:Hid (((w.alloc (Obj.cells #[.int .i64 k.i.sets,.int .i64 k.i.ways,.slice a1 k.i.es.length c1,.int .i64 k.d.sets,.int .i64 k.d.ways,.slice a2 k.d.es.length c2,.int .i64 k.p.sets,.int .i64 k.p.ways,.slice a3 k.p.es.length c3] 39)).alloc (Obj.cells #[.int .i64 0,.int .i64 0,.slice none 0 0,.int .i64 0,.int .i64 0,.slice none 0 0,.int .i64 0,.int .i64 0,.slice none 0 0] 73)).heap[w.heap.size+1]?=some (.cells #[.int .i64 0,.int .i64 0,.slice none 0 0,.int .i64 0,.int .i64 0,.slice none 0 0,.int .i64 0,.int .i64 0,.slice none 0 0] 73 (0,0))):=by
  have:=heap_alloc_new (w.alloc (Obj.cells #[.int .i64 k.i.sets,.int .i64 k.i.ways,.slice a1 k.i.es.length c1,.int .i64 k.d.sets,.int .i64 k.d.ways,.slice a2 k.d.es.length c2,.int .i64 k.p.sets,.int .i64 k.p.ways,.slice a3 k.p.es.length c3] 39)) (Obj.cells #[.int .i64 0,.int .i64 0,.slice none 0 0,.int .i64 0,.int .i64 0,.slice none 0 0,.int .i64 0,.int .i64 0,.slice none 0 0] 73);simp only [World.size_alloc] at this;exact this
 have l1:((w.alloc (Obj.cells #[.int .i64 k.i.sets,.int .i64 k.i.ways,.slice a1 k.i.es.length c1,.int .i64 k.d.sets,.int .i64 k.d.ways,.slice a2 k.d.es.length c2,.int .i64 k.p.sets,.int .i64 k.p.ways,.slice a3 k.p.es.length c3] 39)).alloc (Obj.cells #[.int .i64 0,.int .i64 0,.slice none 0 0,.int .i64 0,.int .i64 0,.slice none 0 0,.int .i64 0,.int .i64 0,.slice none 0 0] 73)).heap.size=w.heap.size+2:=by simp
 go_enter Tryz.func45,Tryz.ntmps45;go_wp2_with fail;generalize ((w.alloc (Obj.cells #[.int .i64 k.i.sets,.int .i64 k.i.ways,.slice a1 k.i.es.length c1,.int .i64 k.d.sets,.int .i64 k.d.ways,.slice a2 k.d.es.length c2,.int .i64 k.p.sets,.int .i64 k.p.ways,.slice a3 k.p.es.length c3] 39)).alloc (Obj.cells #[.int .i64 0,.int .i64 0,.slice none 0 0,.int .i64 0,.int .i64 0,.slice none 0 0,.int .i64 0,.int .i64 0,.slice none 0 0] 73))=u0 at n1 H1 H2 l1 |-;have A1:=n1;have I1:=H1;have J1:=H2;clear n1 H1 H2;refine (mZ _ k.i u0 (HT1.out u0 A1)).mono ?_;rw [HQ1.out];rintro e z1 ⟨⟨s1,y1,t1,x1,cc1,rfl,hv1⟩,nz1⟩;have HV1:Hid _:=hv1;have m1:=nz1.alloc nz1.size (Obj.cells #[.int .i64 s1,.int .i64 y1,.slice t1 x1 cc1] 68);have mz1:=(Below.refl z1.heap.size z1).alloc nle (Obj.cells #[.int .i64 s1,.int .i64 y1,.slice t1 x1 cc1] 68);have B11:Hid ((z1.alloc (Obj.cells #[.int .i64 s1,.int .i64 y1,.slice t1 x1 cc1] 68)).heap[z1.heap.size]?=some (.cells #[.int .i64 s1,.int .i64 y1,.slice t1 x1 cc1] 68 (0,0))):=heap_alloc_new z1 _;have A2:=bst A1 m1;have J2:=ah J1 m1;have I2:=ah I1 m1;have IZ1:=cT (ah I1 nz1).out;have lz1:=(hpl (ah I1 nz1).out);have ls1:=nz1.size;have lt1:z1.heap.size<(z1.alloc (Obj.cells #[.int .i64 s1,.int .i64 y1,.slice t1 x1 cc1] 68)).heap.size:=by simp
 obtain ⟨b0,b1,b2,b3,b4,b5,b6,b7,b8⟩:=IZ1;clear hv1 nz1;go_wp2_with fail;generalize z1.alloc (Obj.cells #[.int .i64 s1,.int .i64 y1,.slice t1 x1 cc1] 68)=u1 at m1 mz1 B11 A2 J2 I2 lt1 |-;clear b0 b1 b2 b3 b4 b5 b6 b7 b8;refine (mZ _ k.d u1 (HT2.out u1 A2)).mono ?_;rw [HQ2.out];rintro e z2 ⟨⟨s2,y2,t2,x2,cc2,rfl,hv2⟩,nz2⟩;have HV2:Hid _:=hv2;have m2:=nz2.alloc nz2.size (Obj.cells #[.int .i64 s2,.int .i64 y2,.slice t2 x2 cc2] 68);have mz2:=(Below.refl z2.heap.size z2).alloc nle (Obj.cells #[.int .i64 s2,.int .i64 y2,.slice t2 x2 cc2] 68);have B22:Hid ((z2.alloc (Obj.cells #[.int .i64 s2,.int .i64 y2,.slice t2 x2 cc2] 68)).heap[z2.heap.size]?=some (.cells #[.int .i64 s2,.int .i64 y2,.slice t2 x2 cc2] 68 (0,0))):=heap_alloc_new z2 _;have A3:=bst A2 m2;have J3:=ah J2 m2;have I3:=ah I2 m2;have B21:=ah B11 m2;have IZ2:=cT (ah I2 nz2).out;have lz2:=(hpl (ah I2 nz2).out);have ls2:=nz2.size;have lt2:z2.heap.size<(z2.alloc (Obj.cells #[.int .i64 s2,.int .i64 y2,.slice t2 x2 cc2] 68)).heap.size:=by simp
 obtain ⟨b0,b1,b2,b3,b4,b5,b6,b7,b8⟩:=IZ2;clear hv2 nz2;go_wp2_with fail;generalize z2.alloc (Obj.cells #[.int .i64 s2,.int .i64 y2,.slice t2 x2 cc2] 68)=u2 at m2 mz2 B22 A3 J3 I3 lt2 B21 |-;clear b0 b1 b2 b3 b4 b5 b6 b7 b8;refine (uc _ k.p u2 (HT3.out u2 A3)).mono ?_;rw [HQ3.out];rintro e z3 ⟨⟨s3,y3,t3,x3,cc3,rfl,hv3⟩,nz3⟩;have HV3:Hid _:=hv3;have A4:=bst A3 nz3;have J4:=ah J3 nz3;have B31:=ah B21 nz3;have B32:=ah B22 nz3;have q31:=(hpl B31.out);have q32:=(hpl B32.out);have q33:=(hpl J4.out);clear hv3;obtain ⟨p0,p1,p2⟩:=(aA B31.out).1;obtain ⟨p3,p4,p5⟩:=(aA B32.out).1;obtain ⟨d0,d1,d2,d3,d4,d5,d6,d7,d8⟩:=cT J4.out;have ff:=tJ J4.out;have f0:=ff 0;have f1:=ff 1;have f2:=ff 2;have f3:=ff 3;have f4:=ff 4;have f5:=ff 5;have f6:=ff 6;have f7:=ff 7;have f8:=ff 8;clear ff;have r31:z1.heap.size≠z3.heap.size:=by omega
 have r32:z2.heap.size≠z3.heap.size:=by omega
 have r33:w.heap.size+1≠z3.heap.size:=by omega
 by_cases hall:q1=true∧q2=true∧q3=true
 ·obtain ⟨rfl,rfl,rfl⟩:=hall;obtain ⟨gi,rfl,rfl,rfl,rfl,rfl,oi⟩:=HV1.out (by trivial);obtain ⟨gd,rfl,rfl,rfl,rfl,rfl,od⟩:=HV2.out (by trivial);obtain ⟨gp,rfl,rfl,rfl,rfl,rfl,op⟩:=HV3.out (by trivial);have lgi:=(bZ oi).2;have lgd:=(bZ od).2;have lgp:=(bZ op).2;simp only at lgi lgd lgp;have oi':=aj (aj (aj oi mz1) m2) nz3;have od':=aj (aj od mz2) nz3;have s1':=m2.size;have s2':=nz3.size;have s3':=m1.size;go_wp2_with fail;refine bodyPost_ret (v:=.tuple #[.agg (gP k gi gd gp),.bool true]) (by simp [results,Tryz.results45,go_sem,gP,d0,d1,d2,d3,d4,d5,d6,d7,d8,q33]) rfl ⟨⟨gi,gd,gp,rfl,?_⟩,(Dj A4 (by omega) _ _ _ _ _ _ _ _ _).alloc (by simp;omega) _⟩;have g9:=gb9 z3 (w.heap.size+1);exact RowsAt.keep ⟨aP (aI oi' (g9 _ _ _ _ _ _ _ _ _) (by omega)) (by omega),aP (aI od' (g9 _ _ _ _ _ _ _ _ _) (by omega)) (by omega),aP (aI op (g9 _ _ _ _ _ _ _ _ _) (by omega)) (by omega),by omega,by omega,by omega⟩ ((Below.refl _ _).alloc nle _)
 ·have hall':(q1 && q2 && q3)=false:=by
   cases q1 <;> cases q2 <;> cases q3 <;> simp at hall |-
  cases q1 <;> cases q2 <;> cases q3;all_goals first | (exfalso;simp at hall';done) | skip
  all_goals
   go_wp2_with fail;exact bodyPost_ret (v:=.tuple #[.agg #[.int .i64 0,.int .i64 0,.slice none 0 0,.int .i64 0,.int .i64 0,.slice none 0 0,.int .i64 0,.int .i64 0,.slice none 0 0],.bool false]) (by simp [results,Tryz.results45,go_sem,d0,d1,d2,d3,d4,d5,d6,d7,d8,q33]) rfl ⟨rfl,(Dj A4 (by omega) _ _ _ _ _ _ _ _ _).alloc (by simp;omega) _⟩
theorem qU (a b:Option Addr) (len ca cb:Nat) (zs:List Int) (w:World) (h:RowC w a len 1 (zs.map (Value.int .u64))) (h':RowC w b len 1 (zs.map (Value.int .u64))) (hl:len<=1048576):
 Calls Tryz.prog 21 #[.slice a len ca,.slice b len cb] w fun e w'=>e=.returned (.bool true)∧∃n,w'=w.drewN n:=by
 obtain ⟨h1,h3⟩:=h;obtain ⟨_,k3⟩:=h';have hz:zs.length=len:=by simpa using h1
 have HAt:Hid (∀k,k<len->(zs.map (Value.int .u64))[k]?=some (.int .u64 (zs[k]?.getD 0))):=fun k hk=>by
  have:k<zs.length:=by omega
  simp [this]
 clear h1;go_enter Tryz.func21,Tryz.ntmps21;go_wp2;go_loopw [5] (fun i wr=>∃(k:Nat),k<=len∧i=.int .i64 k∧∃n,wr=w.drewN n) (fun i _=>len-(intOf i).toNat)
 case atStart=>exact ⟨0,Nat.zero_le _,rfl,0,rfl⟩
 case round=>
  obtain ⟨k,hk,rfl,n,rfl⟩:=hrel;by_cases hlt:k<len
  ·rcases h3 with h3 | ⟨b1,o1,rfl,hb1,hc1⟩
   ·omega
   rcases k3 with k3 | ⟨b2,o2,rfl,hb2,hc2⟩
   ·omega
   have g1:=hc1 k _ (HAt.out k hlt);have g2:=hc2 k _ (HAt.out k hlt);generalize zs[k]?.getD 0=z at g1 g2;clear hc1 hc2;go_wp2;go_quiet (fail);go_wp2;go_roundw
   case rel=>exact ⟨k+1,by omega,by go_num,n+nq,rfl⟩
   case measure=>simp [intOf];omega
  ·go_wp2;go_ret;exact ⟨rfl,n,rfl⟩
def gn (s t:Value):Prop:=∀g,s.ownBlock=some g->t.ownBlock≠some g
def TransSep (base:Nat) (w:World) (v:Value) (r:(Int × Int) × KM):Prop:=
 ∃s1 s2 s3,v=.agg #[.int .i64 r.1.1,.int .u64 r.1.2,.int .i64 r.2.i.sets,.int .i64 r.2.i.ways,s1,.int .i64 r.2.d.sets,.int .i64 r.2.d.ways,s2,.int .i64 r.2.p.sets,.int .i64 r.2.p.ways,s3]∧
  w.ownsRow base 121 6 s1 r.2.i.es.length (aR r.2.i.es)∧w.ownsRow base 121 6 s2 r.2.d.es.length (aR r.2.d.es)∧w.ownsRow base 121 6 s3 r.2.p.es.length (aR r.2.p.es)∧
  gn s1 s2∧gn s1 s3∧gn s2 s3
theorem TransSep.own {base:Nat} {w:World} {v:Value} {r:(Int × Int) × KM} (h:TransSep base w v r):TransOwn base w v r:=by
 obtain ⟨s1,s2,s3,h0,h1,h2,h3,_⟩:=h;exact ⟨s1,s2,s3,h0,h1,h2,h3⟩
theorem TlbAt.row {w:World} {a:Option Addr} {c:Nat} {t:TlbM} (h:TlbAt w (.agg #[.int .i64 t.sets,.int .i64 t.ways,.slice a t.es.length c]) t):RowC w a t.es.length 6 (aR t.es)∧t.es.length<=1048576:=by
 obtain ⟨a',c',he,hr,_,_,_,hl,_⟩:=h;simp at he;obtain ⟨rfl,rfl⟩:=he;exact ⟨hr,hl⟩
theorem hU {e:TypeId} {size base n:Nat} {w:World} {s:Value} {cs:List Value} (h:w.ownsRow base e size s n cs):(s=.slice none 0 0∧n=0∧cs=[])∨∃g cap,s=.slice (some ⟨g,0,none⟩) n cap:=by
 rcases h.2 with ⟨h1,h2⟩ | ⟨g,cap,_,h1,_⟩
 ·refine .inl ⟨h1,h2,?_⟩;have:=h.1;subst h2;simpa using this
 ·exact .inr ⟨g,cap,h1⟩
def RowS (w:World) (s:Value) (n:Nat) (cs:List Value):Prop:=∃a cap,s=.slice a n cap∧RowC w a n 6 cs
theorem RowS.keep {w w':World} {s:Value} {n:Nat} {cs:List Value} (h:RowS w s n cs) (hb:Bw w w'):RowS w' s n cs:=by
 obtain ⟨a,c,h1,h2⟩:=h;exact ⟨a,c,h1,h2.keep hb⟩
structure Mid (R:Nat->Prop) (w w':World):Prop where
 os:w'.os=w.os
 tape:w'.tape=w.tape
 output:w'.output=w.output
 size:w.heap.size<=w'.heap.size
 block:∀i,i<w.heap.size->¬R i->w'.heap[i]?=w.heap[i]?
theorem Mid.of_gb {R:Nat->Prop} {w w':World} {r:Option Nat} (h:w.grownBy w' r) (hr:∀g,r=some g->R g):Mid R w w':=
 ⟨h.os,h.tape,h.output,h.size,fun i hi' hh=>h.block i hi' (fun e=>hh (hr i e.symm))⟩
theorem Mid.of_below {R:Nat->Prop} {w w':World} (h:Bw w w'):Mid R w w':=
 ⟨h.os,h.tape,h.output,h.size,fun i hi' _=>h.block i hi'⟩
theorem Mid.trans {R:Nat->Prop} {a b c:World} (h:Mid R a b) (k:Mid R b c):Mid R a c:=
 ⟨k.os.trans h.os,k.tape.trans h.tape,k.output.trans h.output,Nat.le_trans h.size k.size,fun i hi' hh=>(k.block i (Nat.lt_of_lt_of_le hi' h.size) hh).trans (h.block i hi' hh)⟩
theorem Mid.heap {R:Nat->Prop} {g:Nat} {w w':World} {o:Obj} (h:Mid R w w') (hg:w.heap[g]?=some o) (hh:¬R g):w'.heap[g]?=some o:=
 (h.block g (hpl hg) hh).trans hg
theorem Mid.below {R:Nat->Prop} {B:Nat} {a w w':World} (h:Mid R w w') (hb:Below B a w) (hB:B<=w.heap.size) (hl:∀g,R g->B<=g):Below B a w':=
 ⟨h.os.trans hb.os,h.tape.trans hb.tape,h.output.trans hb.output,Nat.le_trans hb.size h.size,fun k hk=>(h.block k (by omega) (fun hr=>by have:=hl k hr;omega)).trans (hb.block k hk)⟩
theorem Mid.own {R:Nat->Prop} {e:TypeId} {size base n:Nat} {w w':World} {s:Value} {cs:List Value} (h:Mid R w w') (ho:w.ownsRow base e size s n cs) (hh:∀g,s.ownBlock=some g->¬R g):w'.ownsRow base e size s n cs:=by
 refine ⟨ho.1,?_⟩;rcases ho.2 with h1 | ⟨g,cap,cur,h1,h2,h3,h4⟩
 ·exact .inl h1
 ·exact .inr ⟨g,cap,cur,h1,h2,h.heap h3 (hh g (by rw [h1];rfl)),h4⟩
def Db (s1 s2 s3:Value) (i:Nat):Prop:=s1.ownBlock=some i∨s2.ownBlock=some i∨s3.ownBlock=some i
theorem fD {e:TypeId} {size base n:Nat} {w w':World} {s t:Value} {cs:List Value} (h:w.ownsRow base e size s n cs) (hg:w.grownBy w' t.ownBlock) (ha:gn s t):w'.ownsRow base e size s n cs:=by
 refine h.kept hg ?_;cases hs:s.ownBlock with
 | none=>exact .inl rfl
 | some g=>exact .inr fun he=>ha g hs he.symm
section
attribute [local go_sem ↓] Go.wp_at_zero Go.wp_at_succ
def mkF (f:Nat->Value) (m:Nat):List Value:=(List.range m).map f
theorem yd (f:Nat->Value) (m t:Nat) (h:t<m):(mkF f m)[t]?=some (f t):=by
 simp [mkF,h]
theorem Cx (f:Nat->Value) (m:Nat):(mkF f m).length=m:=by simp [mkF]
theorem wN (f:Nat->Value) (m j:Nat) (ys:List Value) (hy:ys.length=m) (hj:j<m) (h:∀t,t<j->ys[t]?=some (f t)):∀t,t<j+1->(ys.set j (f j))[t]?=some (f t):=by
 intro t ht;by_cases h0:t=j
 ·subst h0;rw [List.getElem?_set_self (by omega)]
 ·rw [List.getElem?_set_ne (by omega)];exact h t (by omega)
theorem yM (f:Nat->Value) (m:Nat) (ys:List Value) (hy:ys.length=m) (h:∀t,t<m->ys[t]?=some (f t)):ys=mkF f m:=by
 apply List.ext_getElem?;intro t;by_cases ht:t<m
 ·rw [yd f m t ht];exact h t ht
 ·rw [List.getElem?_eq_none (by omega),List.getElem?_eq_none (by rw [Cx];omega)]
def ip (k0:Int) (j:Nat):Value:=.int .u8 ((k0+j)%256)
theorem sZ (base n:Nat) (s:Value) (cs:List Value) (k0:Int) (w:World) (h:w.ownsRow base 5 1 s n cs) (hl:n<=1048576) (hk0:0<=k0) (hk1:k0<=1073741824):
 Calls Tryz.prog 10 #[s,.int .i64 k0] w fun e w'=>e=.returned (.int .i64 (k0+n))∧w'.ownsRow base 5 1 s n (mkF (ip k0) n)∧w.grownBy w' s.ownBlock:=by
 rcases hU h with ⟨rfl,rfl,rfl⟩ | ⟨g,cap,rfl⟩
 ·go_enter Tryz.func10,Tryz.ntmps10;go_wp2;go_loopw [1,5] (fun kk i wr=>kk=.int .i64 k0∧i=.int .i64 0∧wr=w) (fun _ i _=>0)
  case atStart=>exact ⟨rfl,rfl,rfl⟩
  case round=>
   obtain ⟨rfl,rfl,rfl⟩:=hrel;go_wp2;go_ret;exact ⟨by simp,h,aq _ _⟩
 ·have HI:Hid _:=h;have hlen:=h.1;clear h;go_enter Tryz.func10,Tryz.ntmps10;go_wp2;go_loopw [1,5] (fun kk i wr=>∃(j:Nat) (ys:List Value),j<=n∧kk=.int .i64 (k0+j)∧i=.int .i64 j∧ys.length=n∧(∀t,t<j->ys[t]?=some (ip k0 t))∧wr.ownsRow base 5 1 (.slice (some ⟨g,0,none⟩) n cap) n ys∧w.grownBy wr (some g)) (fun _ i _=>n-(intOf i).toNat)
  case atStart=>exact ⟨0,cs,Nat.zero_le _,by simp,rfl,by omega,fun t ht=>absurd ht (by omega),HI.out,aq _ _⟩
  case round=>
   clear HI;obtain ⟨j,ys,hj,rfl,rfl,hy,hyz,hb,hn⟩:=hrel;by_cases hlt:j<n
   ·have y0:=aB hb j _ (List.getElem?_eq_getElem (by omega));generalize ys[j]'_=z0 at y0;have r0:=aO hb j;have HZ:=hid hyz;have HB:=hid hb;clear hyz hb;go_wp2;go_roundw
    case rel=>exact ⟨j+1,_,by omega,by go_num,by go_num,by rw [List.length_set];exact hy,wN (ip k0) n j ys hy hlt HZ.out,aF HB.out _ _,ak hn _ _⟩
    case measure=>simp [intOf];omega
   ·have hjl:j=n:=by omega
    subst hjl;have hyy:=yM _ j ys hy hyz;subst hyy;have HB:Hid _:=hb;clear hyz hb hy;go_wp2;go_ret;exact ⟨rfl,HB.out,hn⟩
theorem ta (base n:Nat) (s:Value) (k0:Int) (w:World) (h:w.ownsRow base 5 1 s n (mkF (ip k0) n)) (hl:n<=1048576) (hk0:0<=k0) (hk1:k0<=1073741824):
 Calls Tryz.prog 25 #[s,.int .i64 k0] w fun e w'=>e=.returned (.int .i64 (k0+n))∧w'=w:=by
 rcases hU h with ⟨rfl,rfl,_⟩ | ⟨g,cap,rfl⟩
 ·clear h;go_enter Tryz.func25,Tryz.ntmps25;go_wp2
  go_loop [1,5] (fun kk i=>kk=.int .i64 k0∧i=.int .i64 0) (fun _ i=>0)
  case atStart=>exact ⟨rfl,rfl⟩
  case round=>
   obtain ⟨rfl,rfl⟩:=hrel;go_wp2;go_ret;exact ⟨by simp,rfl⟩
 ·go_enter Tryz.func25,Tryz.ntmps25;go_wp2
  go_loop [1,5] (fun kk i=>∃(j:Nat),j<=n∧kk=.int .i64 (k0+j)∧i=.int .i64 j) (fun _ i=>n-(intOf i).toNat)
  case atStart=>exact ⟨0,Nat.zero_le _,by simp,rfl⟩
  case round=>
   obtain ⟨j,hj,rfl,rfl⟩:=hrel;by_cases hlt:j<n
   ·have g2:=aB h j _ (yd (ip k0) n j hlt);have g3:w.cell? ⟨g,j,none⟩=some (.int .u8 ((k0+j)%256)):=g2;clear g2 h;go_wp2
    go_round
    case rel=>exact ⟨j+1,by omega,by go_num,by go_num⟩
    case measure=>simp [intOf];omega
   ·have hjl:j=n:=by omega
    subst hjl;clear h;go_wp2;go_ret;exact ⟨rfl,rfl⟩
def fq (k0:Int) (j:Nat):Value:=.int .u64 (k0+j)
theorem qr (base n:Nat) (s:Value) (cs:List Value) (k0:Int) (w:World) (h:w.ownsRow base 25 1 s n cs) (hl:n<=1048576) (hk0:0<=k0) (hk1:k0<=1073741824):
 Calls Tryz.prog 23 #[s,.int .i64 k0] w fun e w'=>e=.returned (.int .i64 (k0+n))∧w'.ownsRow base 25 1 s n (mkF (fq k0) n)∧w.grownBy w' s.ownBlock:=by
 rcases hU h with ⟨rfl,rfl,rfl⟩ | ⟨g,cap,rfl⟩
 ·go_enter Tryz.func23,Tryz.ntmps23;go_wp2;go_loopw [1,5] (fun kk i wr=>kk=.int .i64 k0∧i=.int .i64 0∧wr=w) (fun _ i _=>0)
  case atStart=>exact ⟨rfl,rfl,rfl⟩
  case round=>
   obtain ⟨rfl,rfl,rfl⟩:=hrel;go_wp2;go_ret;exact ⟨by simp,h,aq _ _⟩
 ·have HI:Hid _:=h;have hlen:=h.1;clear h;go_enter Tryz.func23,Tryz.ntmps23;go_wp2;go_loopw [1,5] (fun kk i wr=>∃(j:Nat) (ys:List Value),j<=n∧kk=.int .i64 (k0+j)∧i=.int .i64 j∧ys.length=n∧(∀t,t<j->ys[t]?=some (fq k0 t))∧wr.ownsRow base 25 1 (.slice (some ⟨g,0,none⟩) n cap) n ys∧w.grownBy wr (some g)) (fun _ i _=>n-(intOf i).toNat)
  case atStart=>exact ⟨0,cs,Nat.zero_le _,by simp,rfl,by omega,fun t ht=>absurd ht (by omega),HI.out,aq _ _⟩
  case round=>
   clear HI;obtain ⟨j,ys,hj,rfl,rfl,hy,hyz,hb,hn⟩:=hrel;by_cases hlt:j<n
   ·have y0:=aB hb j _ (List.getElem?_eq_getElem (by omega));generalize ys[j]'_=z0 at y0;have r0:=aO hb j;have HZ:=hid hyz;have HB:=hid hb;clear hyz hb;go_wp2;go_roundw
    case rel=>exact ⟨j+1,_,by omega,by go_num,by go_num,by rw [List.length_set];exact hy,wN (fq k0) n j ys hy hlt HZ.out,aF HB.out _ _,ak hn _ _⟩
    case measure=>simp [intOf];omega
   ·have hjl:j=n:=by omega
    subst hjl;have hyy:=yM _ j ys hy hyz;subst hyy;have HB:Hid _:=hb;clear hyz hb hy;go_wp2;go_ret;exact ⟨rfl,HB.out,hn⟩
theorem qu (base n:Nat) (s:Value) (k0:Int) (w:World) (h:w.ownsRow base 25 1 s n (mkF (fq k0) n)) (hl:n<=1048576) (hk0:0<=k0) (hk1:k0<=1073741824):
 Calls Tryz.prog 26 #[s,.int .i64 k0] w fun e w'=>e=.returned (.int .i64 (k0+n))∧w'=w:=by
 rcases hU h with ⟨rfl,rfl,_⟩ | ⟨g,cap,rfl⟩
 ·clear h;go_enter Tryz.func26,Tryz.ntmps26;go_wp2
  go_loop [1,5] (fun kk i=>kk=.int .i64 k0∧i=.int .i64 0) (fun _ i=>0)
  case atStart=>exact ⟨rfl,rfl⟩
  case round=>
   obtain ⟨rfl,rfl⟩:=hrel;go_wp2;go_ret;exact ⟨by simp,rfl⟩
 ·go_enter Tryz.func26,Tryz.ntmps26;go_wp2
  go_loop [1,5] (fun kk i=>∃(j:Nat),j<=n∧kk=.int .i64 (k0+j)∧i=.int .i64 j) (fun _ i=>n-(intOf i).toNat)
  case atStart=>exact ⟨0,Nat.zero_le _,by simp,rfl⟩
  case round=>
   obtain ⟨j,hj,rfl,rfl⟩:=hrel;by_cases hlt:j<n
   ·have g2:=aB h j _ (yd (fq k0) n j hlt);have g3:w.cell? ⟨g,j,none⟩=some (.int .u64 (k0+j)):=g2;clear g2 h;go_wp2
    go_round
    case rel=>exact ⟨j+1,by omega,by go_num,by go_num⟩
    case measure=>simp [intOf];omega
   ·have hjl:j=n:=by omega
    subst hjl;clear h;go_wp2;go_ret;exact ⟨rfl,rfl⟩
end
section
open Go.RowKit Go.Joins Go.ChangeShapes Go.WideShapes Go.ChangeAt
def tlbIn (w:World) (t:TlbM) (a:Option Addr) (cap:Nat):Prop:=
 RowC w a t.es.length 6 (aR t.es)∧(∀e∈t.es,eU e)∧(-9223372036854775808<=t.sets∧t.sets<=9223372036854775807)∧(-9223372036854775808<=t.ways∧t.ways<=9223372036854775807)∧t.es.length<=cap∧(cap:Int)<=9223372036854775807
end
theorem sL (g len cap:Nat) (zs:List Int) (k0:Int) (w:World) (h:Blk 5 w g zs) (hz:zs.length=len) (hl:len<=1048576) (hk0:0<=k0) (hk1:k0<=1073741824):
 Calls Tryz.prog 10 #[.slice (some ⟨g,0,none⟩) len cap,.int .i64 k0] w fun e w'=>
  e=.returned (.int .i64 (k0+len))∧Blk 5 w' g (mks k0 len)∧w.grownBy w' (some g):=by
 go_enter Tryz.func10,Tryz.ntmps10;go_wp2;go_loopw [1,5] (fun kk i wr=>∃(j:Nat) (ys:List Int),j<=len∧kk=.int .i64 (k0+j)∧i=.int .i64 j∧ys.length=len∧(∀t,t<j->ys[t]?=(mks k0 len)[t]?)∧Blk 5 wr g ys∧w.grownBy wr (some g)) (fun _ i _=>len-(intOf i).toNat)
 case atStart=>exact ⟨0,zs,Nat.zero_le _,by simp,rfl,hz,fun t ht=>absurd ht (by omega),h,aq _ _⟩
 case round=>
  obtain ⟨j,ys,hj,rfl,rfl,hy,hyz,hb,hn⟩:=hrel;by_cases hlt:j<len
  ·have g2:=hb.cell j (by omega);have g3:=hb.free j;have HZ:=hid hyz;clear hyz h;go_wp2;go_roundw
   case rel=>exact ⟨j+1,_,by omega,by go_num,by go_num,by simp [hy],zh k0 len j ys hy hlt HZ.out,hb.store j _,ak hn _ _⟩
   case measure=>simp [intOf];omega
  ·have hyy:ys=mks k0 len:=by
    apply List.ext_getElem?;intro t;by_cases ht:t<len
    ·exact hyz t (by omega)
    ·rw [List.getElem?_eq_none (by omega),List.getElem?_eq_none (by rw [no];omega)]
   subst hyy;have hjl:j=len:=by omega
   subst hjl;clear hyz h;go_wp2;go_ret;exact ⟨rfl,hb,hn⟩
end Go.Proofs.YtpdddbobhndbjaaGreat
