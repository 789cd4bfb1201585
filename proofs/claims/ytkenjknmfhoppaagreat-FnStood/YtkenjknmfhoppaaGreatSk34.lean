import Derived.Recover
import Derived.Test.YtkenjknmfhoppaaGreatSk33
import Derived.Defers
import Derived.Test.YtkenjknmfhoppaaGreatSk11
import Derived.Deep.Slices
import Derived.Lib.SmallJoins
namespace Go.Proofs.YtkenjknmfhoppaaGreat
open Go.RowKit
set_option linter.unusedVariables false
set_option maxHeartbeats 6400000
set_option maxRecDepth 20000
theorem Ay:(Tryz.prog.info? 81).map (·.size)=some 18:=by kernel_rfl
theorem MW.mem' {w w':World} {O X:Nat->Prop} {m:MP} {ov:Value} {h:HartM} {ol:List (Nat × Int)} (k:MW w O X m ov h ol) (hk:Kp (fun i=>i=m.gm) w w') {mem:List Int} (hb:Blk 5 w' m.gm mem) (hl:mem.length=h.mem.length) (hm:BytM mem):MW w' O X m ov (eD h mem) ol:=by
 refine ⟨?_,hb,hk.own k.old fun g e=>(k.oo g e).2.2.1,k.ob,k.om,k.oo,k.bm,k.xb,k.xm,fun i hi=>⟨(k.xo i hi).1,ltl (k.xo i hi).2 hk.size⟩,hm,by show mem.length<=4096;rw [hl];exact k.len,k.regs,k.oll,k.sh,fun i hi=>ltl (k.obd i hi) hk.size,by show ∀o∈ol,o.1<mem.length∧_;rw [hl];exact k.oln⟩;have e:cN (eD h mem) m.gm ov m.gi m.gd m.gp m.pv=cN h m.gm ov m.gi m.gd m.gp m.pv:=by simp only [cN,eD,hl]
 rw [e];exact hk.heap k.blk k.bm
theorem Dx (w:World):(binOp .eql 20 .nilIface .nilIface).run Tryz.prog w=.ok (.bool true) w:=by kernel_rfl
theorem Dy (c t:Int) (w:World):(binOp .eql 20 (.iface 99 (.agg #[VI c,VU t])) .nilIface).run Tryz.prog w=.ok (.bool false) w:=by kernel_rfl
theorem EL (c t:Int) (w:World):(Instr.typeAssert (.iface 99 (.agg #[VI c,VU t])) 20 99 true).run Tryz.prog w=.ok (.tuple #[.agg #[VI c,VU t],.bool true]) w:=by kernel_rfl
theorem wj (pb pm pt:Addr) (w:World):
 CallsD Tryz.prog 75 #[.pointer (some pb),.pointer (some pm),.pointer (some pt)] .returning w fun e u' w'=>e=.returned (.tuple #[])∧u'=.returning∧w'=w:=by
 have qe:=Dx;refine callsD_of_wpS Tryz.func75 rfl fun c₀ cs hu=>?_;apply wpS_seq;apply wpS_region;simp [wpOpsS,go_sem,recoverD,hu,Tryz.ntmps75,Exit.thenS];refine wpS_of_wp ?_;simp only [Array.replicate_succ,Array.replicate_zero,List.push_toArray,List.nil_append,List.cons_append,List.append_toArray,List.setIfInBounds_toArray,List.set_cons_succ,List.set_cons_zero];go_wp2_with fail;cases c₀
 simp_all [bodyPostS,results,Tryz.results75]
theorem wk {O X:Nat->Prop} {m:MP} {ov:Value} {hx h0:HartM} {ol:List (Nat × Int)} (pb pm pt:Nat) (c t:Int) (w:World) (k:MW w O X m ov hx ol) (hun:ia ol hx.mem=h0.mem) (hby:BytM h0.mem) (hrg:h0.regs.length=8)
 (h1:w.heap[pb]?=some (.cells (hZ h0) 81 (0,0))) (h2:w.heap[pm]?=some (.cells #[PT m.b 0] 75 (0,0))) (h3:w.heap[pt]?=some (.cells #[VI 0,VU 0] 99 (0,0))) (n1:¬O pb) (n2:¬O pm) (n3:¬O pt):
 CallsD Tryz.prog 75 #[PT pb 0,PT pm 0,PT pt 0] (.panicking [lK c t]) w fun e u' w'=>e=.returned (.tuple #[])∧u'=.panicking [{ lK c t with recovered:=true }]∧
  MW w' O X m ov ⟨h0.mem,h0.regs,h0.tvec,2,h0.sum,h0.mxr,h0.satp,h0.tvec,h0.pc,h0.mode,c,t,hx.k⟩ ol∧w'.heap[pt]?=some (.cells #[VI c,VU t] 99 (0,0))∧Kp (fun i=>i=m.b∨i=m.gm∨i=pt) w w':=by
 have qe:=Dy c t;have qt:=EL c t;refine callsD_of_wpS Tryz.func75 rfl fun c₀ cs hu=>?_;apply wpS_seq;apply wpS_region;simp [wpOpsS,go_sem,recoverD,hu,lK,Tryz.ntmps75,Exit.thenS];refine wpS_of_wp ?_;simp only [Array.replicate_succ,Array.replicate_zero,List.push_toArray,List.nil_append,List.cons_append,List.append_toArray,List.setIfInBounds_toArray,List.set_cons_succ,List.set_cons_zero];go_upto_region 5 with fail;obtain ⟨v1,Ev1,F⟩:=ax1 w #[VI c,VU t] 99;rw [Ev1.out];clear Ev1;obtain ⟨f1,f2,nn⟩:=F;have K1:=hid (k.low nn);have HF1:Hid _:=f1;have HN1:Hid _:=nn;have H11:=hid (ag h1 nn (hpl h1));have H21:=hid (ag h2 nn (hpl h2));have H31:=hid (ag h3 nn (hpl h3));have hptl:=(hpl h3);have hbl:=k.lt;have nO:¬O w.heap.size:=fun h=>by have:=k.obd _ h;omega
 have npm:pm≠m.b:=fun e=>n2 (e ▸ k.ob);have npt:pt≠m.b:=fun e=>n3 (e ▸ k.ob);have HOb:=k.ob;have HOm:=k.om;clear f1 f2 nn h1 h2 h3 k;have HL:Hid _:=bf (P:=Tryz.prog) (T:=81) H11.out Tryz.underlying81 rfl (by kernel_rfl);have HS:Hid _:=eJ (P:=Tryz.prog) (T:=81) (o:=0) (V:=hZ h0) K1.out.blk (by kernel_rfl) (by simp [hZ,cN]) (by simp [hZ,Value.oneCell']);have HB2:Hid ((v1.setCells m.b 0 (hZ h0).toList).heap[m.b]?=some (.cells (cN ⟨hx.mem,h0.regs,h0.pc,h0.mode,h0.sum,h0.mxr,h0.satp,h0.tvec,h0.epc,h0.emode,h0.cause,h0.tval,hx.k⟩ m.gm ov m.gi m.gd m.gp m.pv) 97 (0,0))):=by
  have:=cT m.b (hZ h0).toList 0 v1 _ _ _ K1.out.blk (by simp [hZ,cN]);exact this
 have hg2:=aH m.b (hZ h0).toList 0 v1 v1 (aw v1 _);have K2:Hid _:=K1.out.put hg2 HB2.out rfl hrg;have H22:Hid _:=aB H21.out hg2 npm;have H32:Hid _:=aB H31.out hg2 npt;have HF2:Hid _:=aB HF1.out hg2 (show w.heap.size≠m.b by omega);have N2:Hid (Kp (fun i=>i=m.b∨i=m.gm∨i=pt) w (v1.setCells m.b 0 (hZ h0).toList)):=(Kp.of_below _ HN1.out).trans (Kp.of_gb hg2 (.inl rfl));have cpm:=ab H21.out 0 (v:=PT m.b 0) rfl;clear HB2 hg2;obtain ⟨CA,hCA⟩:∃CA,hZ h0=CA:=⟨_,rfl⟩;rw [hCA] at HL HS K2 H22 H32 HF2 N2;clear hCA;go_upto_region 6 with (first
  | ((with_reducible refine ba ?_ HL.out ?_);(exact rfl))
  | ((with_reducible refine aL ?_ ?_ HS.out ?_);(exact rfl);(exact rfl)))
 generalize v1.setCells m.b 0 CA.toList=v2 at K2 H22 H32 HF2 N2 |-;clear cpm HL HS H11 H21 H31 HF1 K1 HN1;have cpm:=ab H22.out 0 (v:=PT m.b 0) rfl;go_wp2_with fail;refine (BG v2 K2.out).mono ?_;rintro e v3 ⟨rfl,hm3,hk3⟩;have hgm:∀i,¬O i->¬(i=m.gm):=fun i hi e=>hi (e ▸ HOm);have hmx:=hun;have K3:=hid (K2.out.mem' hk3 (mem:=h0.mem) (by rw [<-hmx];exact hm3) (by rw [<-hmx,yx]) hby);have H23:=Kp.hid H22 hk3 (hgm _ n2);have H33:=Kp.hid H32 hk3 (hgm _ n3);have HF3:=Kp.hid HF2 hk3 (hgm _ nO);have N3:=hid (N2.out.trans (hk3.mono fun i e=>.inr (.inl e)));clear hm3 hk3 cpm K2 H22 H32 HF2 N2;go_upto_region 7 with fail;have cpm:=ab H23.out 0 (v:=PT m.b 0) rfl;have t0:=ab HF3.out 0 (v:=VI c) rfl;have t1:=ab HF3.out 1 (v:=VU t) rfl;refine dq 4 (by kernel_rfl) (by kernel_rfl) ?_;simp only [List.take_succ_cons,List.take_zero,List.drop_succ_cons,List.drop_zero];repeat still_step
 refine wpStill_nil ?_;have Dd:=bdr v3;clear cpm t0 t1;go_wp2_with fail;refine (EN c t v3.drew (K3.out.low Dd)).mono ?_;rintro e v4 ⟨rfl,k4,kp4⟩;have hgb:∀i,¬O i->¬(i=m.b):=fun i hi e=>hi (e ▸ HOb);have K4:Hid _:=k4;have HF4:Hid _:=kp4.heap (show v3.drew.heap[w.heap.size]?=_ from HF3.out) (hgb _ nO);have H34:Hid _:=kp4.heap (show v3.drew.heap[pt]?=_ from H33.out) (hgb _ n3);have N4:Hid (Kp (fun i=>i=m.b∨i=m.gm∨i=pt) w v4):=(N3.out.trans (Kp.of_below _ Dd)).trans (kp4.mono fun i e=>.inl e);clear k4 kp4 H23 H33 HF3 N3 K3;have t0:=ab HF4.out 0 (v:=VI c) rfl;have t1:=ab HF4.out 1 (v:=VU t) rfl;have p0:=ab H34.out 0 (v:=VI 0) rfl;have p1:=ab H34.out 1 (v:=VU 0) rfl;have q0:=az H34.out 0;have q1:=az H34.out 1;have nwp:w.heap.size≠pt:=by omega
 have nwp':pt≠w.heap.size:=by omega
 have g5:=aq (aq (aw v4 (some pt)) 0 (VI c)) 1 (VU t);have H35:Hid _:=bD (v:=VU t) (i:=1) (bD (v:=VI c) (i:=0) H34.out);have hk5:Kp (fun i=>i=pt) v4 ((v4.setCell (AD pt 0) (VI c)).setCell (AD pt 1) (VU t)):=Kp.of_gb g5 rfl;have N5:Hid (Kp (fun i=>i=m.b∨i=m.gm∨i=pt) w ((v4.setCell (AD pt 0) (VI c)).setCell (AD pt 1) (VU t))):=N4.out.trans (hk5.mono fun i e=>.inr (.inr e));have K5:Hid (MW ((v4.setCell (AD pt 0) (VI c)).setCell (AD pt 1) (VU t)) O X m ov ⟨h0.mem,h0.regs,h0.tvec,2,h0.sum,h0.mxr,h0.satp,h0.tvec,h0.pc,h0.mode,c,t,hx.k⟩ ol):=by
  have K:=K4.out;refine ⟨hk5.heap K.blk (fun e=>n3 (e ▸ K.ob)),hk5.blk K.mem (fun e=>n3 (e ▸ K.om)),hk5.own K.old fun g e e'=>n3 (e' ▸ (K.oo g e).1),K.ob,K.om,K.oo,K.bm,K.xb,K.xm,fun i hi=>⟨(K.xo i hi).1,ltl (K.xo i hi).2 hk5.size⟩,K.byt,K.len,K.regs,K.oll,K.sh,fun i hi=>ltl (K.obd i hi) hk5.size,K.oln⟩
 clear g5 hk5;go_wp2_with fail;generalize (v4.setCell (AD pt 0) (VI c)).setCell (AD pt 1) (VU t)=v5 at H35 N5 K5 |-;exact ⟨rfl,_,rfl,_,results_none rfl _ _ _,rfl,rfl,K5.out,H35.out,N5.out⟩
section
variable {P:Program} {ops:Array Oper} {Q:Exit->Act->World->Prop} {F:World->Prop} {c:Nat}
theorem uR (ns:Region.noSelect ops=true) {fuel:Nat} {w:World} (hF:F w):∀(is:List Nat) (s:Array Bool) (a:Act),(∀i∈is,∀o,ops[i]?=some o->∀x a v w,Q (.panic x) (a.put o.dst v) w->Q (.panic x) a w)->Bt ops c is s=true->
 wpQuiet P ops F (fun a'=>bK P ops Q F c fuel (uG is s) a' w) (gX ops is) a->bK P ops Q F c (fuel+is.length) s a w
 | [],s,a,_,_,h=>h
 | i::is,s,a,hQ,hB,h=>by
  simp only [Bt,Bool.and_eq_true] at hB;obtain ⟨⟨⟨⟨⟨⟨h1,h2⟩,h3⟩,h4⟩,h5⟩,h6⟩,h7⟩:=hB;cases ho:ops[i]? with
  | none=>rw [ho] at h6;cases h6
  | some o=>
   rw [ho] at h6;simp only [gX,ho,wpQuiet] at h;have key:∀v,YieldsIf P ops (fun w=>∃l,Closed ops l∧l.getD i true=false∧(l.getD c false=false->F w)) o v a->wpQuiet P ops F (fun a'=>bK P ops Q F c fuel (uG is (s.setIfInBounds i true)) a' w) (gX ops is) (a.put o.dst v)->bK P ops Q F c (fuel+(i::is).length) s a w:=fun v hy hn=>
    kW ho (by simpa using h4) (Region.noSelect_spec ns) (fun x a w=>hQ i (by simp) o ho x a _ w) (fuel+is.length) s a w (jk h1) (Region.free_spec ho h2) (by simpa using h3) hy (fun _=>hF) (uR ns hF is _ _ (fun j hj=>hQ j (by simp [hj])) h7 hn)
   split at h
   ·rename_i hw;obtain ⟨v,hv,hn⟩:=h;refine key v (.inl ⟨hw,fun u ⟨l,l1,l2,l3⟩=>?_⟩) hn;have hFu:F u:=l3 (by
     cases hh:l.getD c false
     ·rfl
     ·have:=jQ l1 _ _ h5 hh;rw [nv l2] at this;cases this)
    have hq:=hv u hFu;unfold Oper.quietAt at hq;generalize hr:(execOp a.eval o).run P u=r at hq;cases r with
    | halt x w1=>exact hq.elim
    | ok n w1=>
     obtain ⟨x,rfl⟩:=sS h6 hr;obtain ⟨rfl,rfl⟩:=hq;rfl
   ·rename_i hw;exact key undef (.inr ⟨by simpa using hw,rfl⟩) h
end
theorem mF {P:Program} {fn:Func} {t t':Array Value} {R:Ending->World->Prop} (hr:results fn t'=results fn t):∀(ds:List Deferred) (u:FrameMode) (w:World),Leaves P fn t' R ds u w->Leaves P fn t R ds u w
 | [],.returning,w,h=>by
  obtain ⟨v,h1,h2⟩:=h;rw [hr] at h1;exact ⟨v,h1,h2⟩
 | [],.panicking ch,w,h=>h
 | [],.run,w,h=>h
 | d::ds,u,w,h=>by
  obtain ⟨h1,fv,cap,f,args,h2,h3,h4⟩:=h;refine ⟨h1,fv,cap,f,args,h2,h3,h4.mono ?_⟩;intro e u' w' hh;cases e with
  | returned v=>exact mF hr ds _ _ hh
  | panicked ch=>exact mF hr ds _ _ hh
  | outgrown=>exact hh
def gE (s t:Value):Prop:=∀g,s.ownBlock=some g->t.ownBlock≠some g
def Fm (base:Nat) (w:World) (v:Value) (k:KM):Prop:=
 ∃g1 c1 g2 c2 g3 c3,v=.agg #[VI k.i.sets,VI k.i.ways,SL g1 k.i.es.length c1,VI k.d.sets,VI k.d.ways,SL g2 k.d.es.length c2,VI k.p.sets,VI k.p.ways,SL g3 k.p.es.length c3]∧
  w.ownsRow base 127 6 (SL g1 k.i.es.length c1) k.i.es.length (aO k.i.es)∧w.ownsRow base 127 6 (SL g2 k.d.es.length c2) k.d.es.length (aO k.d.es)∧w.ownsRow base 127 6 (SL g3 k.p.es.length c3) k.p.es.length (aO k.p.es)∧
  g1≠g2∧g1≠g3∧g2≠g3
def TransSep (base:Nat) (w:World) (v:Value) (r:(Int × Int) × KM):Prop:=
 ∃s1 s2 s3,v=.agg #[VI r.1.1,VU r.1.2,VI r.2.i.sets,VI r.2.i.ways,s1,VI r.2.d.sets,VI r.2.d.ways,s2,VI r.2.p.sets,VI r.2.p.ways,s3]∧
  w.ownsRow base 127 6 s1 r.2.i.es.length (aO r.2.i.es)∧w.ownsRow base 127 6 s2 r.2.d.es.length (aO r.2.d.es)∧w.ownsRow base 127 6 s3 r.2.p.es.length (aO r.2.p.es)∧
  gE s1 s2∧gE s1 s3∧gE s2 s3
theorem TransSep.own {base:Nat} {w:World} {v:Value} {r:(Int × Int) × KM} (h:TransSep base w v r):TransOwn base w v r:=by
 obtain ⟨s1,s2,s3,h0,h1,h2,h3,_⟩:=h;exact ⟨s1,s2,s3,h0,h1,h2,h3⟩
theorem sE {g1 g2 n1 n2 c1 c2:Nat} (h:g1≠g2):gE (SL g1 n1 c1) (SL g2 n2 c2):=fun g h1 h2=>by
 simp [Value.ownBlock] at h1 h2;omega
theorem TlbAt.row {w:World} {a:Option Addr} {c:Nat} {t:TlbM} (h:TlbAt w (.agg #[VI t.sets,VI t.ways,.slice a t.es.length c]) t):RowC w a t.es.length 6 (aO t.es)∧t.es.length<=1048576:=by
 obtain ⟨a',c',he,hr,_,_,_,hl,_⟩:=h;simp at he;obtain ⟨rfl,rfl⟩:=he;exact ⟨hr,hl⟩
theorem uj {e:TypeId} {size base n:Nat} {w:World} {s:Value} {cs:List Value} (h:w.ownsRow base e size s n cs):(s=SN∧n=0∧cs=[])∨∃g cap,s=SL g n cap:=by
 rcases h.2 with ⟨h1,h2⟩ | ⟨g,cap,_,h1,_⟩
 ·refine .inl ⟨h1,h2,?_⟩;have:=h.1;subst h2;simpa using this
 ·exact .inr ⟨g,cap,h1⟩
def RowS (w:World) (s:Value) (n:Nat) (cs:List Value):Prop:=∃a cap,s=.slice a n cap∧RowC w a n 6 cs
theorem RowS.keep {w w':World} {s:Value} {n:Nat} {cs:List Value} (h:RowS w s n cs) (hb:Bw w w'):RowS w' s n cs:=by
 obtain ⟨a,c,h1,h2⟩:=h;exact ⟨a,c,h1,h2.keep hb⟩
structure Mid (R:Nat->Prop) (w w':World):Prop where
 os:w'.os=w.os
 tape:w'.tape=w.tape
 output:w'.output=w.output
 size:w.heap.size<=w'.heap.size
 block:∀i,i<w.heap.size->¬R i->w'.heap[i]?=w.heap[i]?
theorem Mid.of_gb {R:Nat->Prop} {w w':World} {r:Option Nat} (h:w.grownBy w' r) (hr:∀g,r=some g->R g):Mid R w w':=
 ⟨h.os,h.tape,h.output,h.size,fun i hi' hh=>h.block i hi' (fun e=>hh (hr i e.symm))⟩
theorem Mid.of_below {R:Nat->Prop} {w w':World} (h:Bw w w'):Mid R w w':=
 ⟨h.os,h.tape,h.output,h.size,fun i hi' _=>h.block i hi'⟩
theorem Mid.trans {R:Nat->Prop} {a b c:World} (h:Mid R a b) (k:Mid R b c):Mid R a c:=
 ⟨k.os.trans h.os,k.tape.trans h.tape,k.output.trans h.output,Nat.le_trans h.size k.size,fun i hi' hh=>(k.block i (ltl hi' h.size) hh).trans (h.block i hi' hh)⟩
theorem Mid.heap {R:Nat->Prop} {g:Nat} {w w':World} {o:Obj} (h:Mid R w w') (hg:w.heap[g]?=some o) (hh:¬R g):w'.heap[g]?=some o:=
 (h.block g (hpl hg) hh).trans hg
theorem Mid.below {R:Nat->Prop} {B:Nat} {a w w':World} (h:Mid R w w') (hb:Below B a w) (hB:B<=w.heap.size) (hl:∀g,R g->B<=g):Below B a w':=
 ⟨h.os.trans hb.os,h.tape.trans hb.tape,h.output.trans hb.output,Nat.le_trans hb.size h.size,fun k hk=>(h.block k (by omega) (fun hr=>by have:=hl k hr;omega)).trans (hb.block k hk)⟩
theorem Mid.own {R:Nat->Prop} {e:TypeId} {size base n:Nat} {w w':World} {s:Value} {cs:List Value} (h:Mid R w w') (ho:w.ownsRow base e size s n cs) (hh:∀g,s.ownBlock=some g->¬R g):w'.ownsRow base e size s n cs:=by
 refine ⟨ho.1,?_⟩;rcases ho.2 with h1 | ⟨g,cap,cur,h1,h2,h3,h4⟩
 ·exact .inl h1
 ·exact .inr ⟨g,cap,cur,h1,h2,h.heap h3 (hh g (by rw [h1];rfl)),h4⟩
def Fj (s1 s2 s3:Value) (i:Nat):Prop:=s1.ownBlock=some i∨s2.ownBlock=some i∨s3.ownBlock=some i
theorem lW {e:TypeId} {size base n:Nat} {w w':World} {s t:Value} {cs:List Value} (h:w.ownsRow base e size s n cs) (hg:w.grownBy w' t.ownBlock) (ha:gE s t):w'.ownsRow base e size s n cs:=by
 refine h.kept hg ?_;cases hs:s.ownBlock with
 | none=>exact .inl rfl
 | some g=>exact .inr fun he=>ha g hs he.symm
section
open Go.RowKit Go.Joins Go.ChangeShapes Go.WideShapes Go.ChangeAt
def tlbIn (w:World) (t:TlbM) (a:Option Addr) (cap:Nat):Prop:=
 RowC w a t.es.length 6 (aO t.es)∧(∀e∈t.es,fq e)∧(-9223372036854775808<=t.sets∧t.sets<=9223372036854775807)∧(-9223372036854775808<=t.ways∧t.ways<=9223372036854775807)∧t.es.length<=cap∧(cap:Int)<=9223372036854775807
end
theorem wG (w:World):(method 444 72 (.agg #[]) "loop.example/s0051/impl.phys").run Tryz.prog w=.ok (193,.agg #[]) w:=by kernel_rfl
theorem vm (w:World):(method 444 72 (.agg #[]) "loop.example/s0051/impl.fence").run Tryz.prog w=.ok (220,.agg #[]) w:=by kernel_rfl
theorem vn (w:World):(method 444 72 (.agg #[]) "loop.example/s0051/impl.begin").run Tryz.prog w=.ok (187,.agg #[]) w:=by kernel_rfl
theorem yX (args:Array Value) (w:World):(callFunc 193 args).run Tryz.prog w=.ok (.enter 193 args) w:=by kernel_rfl
theorem wH (args:Array Value) (w:World):(callFunc 220 args).run Tryz.prog w=.ok (.enter 220 args) w:=by kernel_rfl
theorem wI (args:Array Value) (w:World):(callFunc 187 args).run Tryz.prog w=.ok (.enter 187 args) w:=by kernel_rfl
theorem yY (zs:List Int) (mode:Int) (sum mxr:Bool) (satp kind va:Int) (hk:0<=kind∧kind<=2) (hm:0<=mode∧mode<=2):
 jb zs mode sum mxr satp kind va=(if (jM zs mode sum mxr satp kind va).2=1 then 0 else if (jM zs mode sum mxr satp kind va).2=2 then eR kind else bP kind,(jM zs mode sum mxr satp kind va).1)∧((jM zs mode sum mxr satp kind va).2=1∨(jM zs mode sum mxr satp kind va).2=2∨(jM zs mode sum mxr satp kind va).2=3):=by
 have hcd:=kU zs satp va;refine ⟨?_,?_⟩
 ·unfold jb;rw [if_neg (by omega)];unfold jM;cases onM mode satp
  ·simp
  ·simp only [Bool.true_eq_false,if_false];exact yU (dn zs satp va) mode sum mxr kind va hcd
 ·unfold jM;cases onM mode satp
  ·simp
  ·simp only [Bool.true_eq_false,if_false];exact AJ (dn zs satp va) mode sum mxr kind va hcd
theorem DX (r:RunM) (sv:Value) (kind va:Int) (w:World) (hs:SrcAt w sv r.h.mem) (hr:ROk r) (hv:inU va):
 Calls Tryz.prog 193 #[.agg #[],sv,rl r.h,VI kind,VU va] w fun e w'=>e=.returned (.tuple #[VU (jM r.h.mem r.h.mode r.h.sum r.h.mxr r.h.satp kind va).1,cM (jM r.h.mem r.h.mode r.h.sum r.h.mxr r.h.satp kind va).2])∧Bw w w':=by
 have F:=jI w #[] #[VI r.h.mode,.bool r.h.sum,.bool r.h.mxr,VU r.h.satp] 72 134;have HS:Hid _:=hs;have hsp:=hr.h.satp;obtain ⟨hv0,hv1⟩:=hv;clear hs hr;generalize r.h.mem=zs at HS |-;unfold rl;generalize r.h.satp=satp at hsp F |-;generalize r.h.mode=mode at F |-;generalize r.h.sum=sum at F |-;generalize r.h.mxr=mxr at F |-;go_enter Tryz.func193,Tryz.ntmps193;go_upto_region 1 with fail;generalize (w.alloc (Obj.cells #[] 72)).alloc (Obj.cells #[VI mode,.bool sum,.bool mxr,VU satp] 134)=v1 at F |-;obtain ⟨f1,f2,f3,n1⟩:=F;have c0:=ab f2 0 (v:=VI mode) rfl;have c1:=ab f2 1 (v:=.bool sum) rfl;have c2:=ab f2 2 (v:=.bool mxr) rfl;have c3:=ab f2 3 (v:=VU satp) rfl;have HN1:Hid _:=n1;have HC:Hid _:=tJ sv zs mode sum mxr satp kind va v1 (SrcAt.keep HS.out n1) hv0 hv1 hsp.1 hsp.2;unfold et at HC;clear f1 f2 f3 n1;go_wp2_with fail;refine Calls.mono HC.out ?_;rintro e v2 ⟨rfl,n2⟩;have HN2:=hid (bst HN1.out n2);obtain ⟨A,hA⟩:∃A,jM zs mode sum mxr satp kind va=A:=⟨_,rfl⟩;rw [hA];have HA:Hid _:=hA;clear hA n2 c0 c1 c2 c3;go_wp2_with fail;exact bodyPost_ret (v:=.tuple #[VU A.1,cM A.2]) (by simp [results,Tryz.results193,go_sem]) rfl ⟨by rw [HA.out],HN2.out⟩
theorem Cf (pick:Int) (w:World):Calls Tryz.prog 187 #[.agg #[],VI pick] w fun e w'=>e=.returned (.tuple #[])∧Bw w w':=by
 have F:=cw w #[] 72;go_enter Tryz.func187,Tryz.ntmps187;go_wp2_with fail;exact ⟨rfl,.tuple #[],by kernel_rfl,rfl,F.2.2⟩
theorem Cg (cv:Value) (w:World):Calls Tryz.prog 220 #[.agg #[],cv] w fun e w'=>e=.returned (.tuple #[])∧Bw w w':=by
 have F:=cw w #[] 72;go_enter Tryz.func220,Tryz.ntmps220;go_wp2_with fail;exact ⟨rfl,.tuple #[],by kernel_rfl,rfl,F.2.2⟩
structure Path (m:MP) (plain:Bool) (base:Nat) (X:Nat->Prop) (PI:KM->World->Prop) (PA:Int->World->RunM->Prop):Prop where
 ok:∀pick h0,0<=pick∧pick<=255->PathOk m plain pick h0 X (PI h0.k) (PA pick)
 next:∀pick w r,PA pick w r->PI r.h.k w
 rows:∀k w,PI k w->RowsAt w base m.gi m.gd m.gp k
theorem Path.cached (m:MP) (pb base:Nat) (hd:CDist m pb) (hbp:m.b≠pb):Path m false base (cX m pb) (cI m pb base) (fun pick w r=>cA m pb base pick r.h.k w):=
 ⟨fun pick h0 hp=>xJ m pb base hd hbp pick hp h0,fun pick w r h=>⟨pick,h⟩,fun k w h=>h.elim fun _ h=>h.1⟩
def pX (m:MP) (i:Nat):Prop:=i=m.gi∨i=m.gd∨i=m.gp
theorem uo {w w':World} {m:MP} {base:Nat} {k:KM} (h:RowsAt w base m.gi m.gd m.gp k) (hx:∀i,pX m i->w'.heap[i]?=w.heap[i]?):RowsAt w' base m.gi m.gd m.gp k:=
 ⟨kq h.1 (hx _ (.inl rfl)),kq h.2.1 (hx _ (.inr (.inl rfl))),kq h.2.2.1 (hx _ (.inr (.inr rfl))),h.2.2.2⟩
theorem oJ {w w':World} {m:MP} {base:Nat} {k:KM} (h:RowsAt w base m.gi m.gd m.gp k) (n:Bw w w'):RowsAt w' base m.gi m.gd m.gp k:=h.keep n
theorem Path.plain (m:MP) (base:Nat) (hpd:m.pd=72) (hpx:m.px=.agg #[]):Path m true base (pX m) (fun k w=>RowsAt w base m.gi m.gd m.gp k) (fun _ w r=>RowsAt w base m.gi m.gd m.gp r.h.k):=by
 refine ⟨fun pick h0 hp=>⟨fun w w' r h _ hx=>uo h hx,fun w w' h _ hx=>uo h hx,fun w r r' h e _ _ _=>by rw [e];exact h,?_,?_,?_⟩,fun _ _ _ h=>h,fun _ _ h=>h⟩
 ·intro w r sv kind va hA _ hs hc hr hk0 hk2 hv;rw [hpd,hpx];refine ⟨_,_,wG w,fun args u=>yX args u,?_⟩;refine (DX r sv kind va w (hs w (Kp.refl _ w)) hr hv).mono ?_;rintro e w' ⟨rfl,n⟩;have h:=yY r.h.mem r.h.mode r.h.sum r.h.mxr r.h.satp kind va ⟨hk0,hk2⟩ hr.h.v.mode;refine ⟨_,_,rfl,h.2,?_,?_,Kp.of_below _ n⟩
  ·unfold bu;rw [if_pos rfl];exact h.1
  ·exact oJ (m:=m) hA n
 ·intro w r cv f hA _ _ _ _ _ _;rw [hpd,hpx];refine ⟨_,_,vm w,fun args u=>wH args u,?_⟩;exact (Cg cv w).mono fun e w' h=>⟨h.1,oJ (m:=m) hA h.2,Kp.of_below _ h.2⟩
 ·intro w hI _ _;rw [hpd,hpx];refine ⟨_,_,vn w,fun args u=>wI args u,?_⟩;refine (Cf pick w).mono fun e w' h=>⟨h.1,?_,Kp.of_below _ h.2⟩;have e:(cK true pick h0).h.k=h0.k:=by
   unfold cK fB;rw [if_neg (by simp)];rfl
  rw [e];exact oJ (m:=m) hI h.2
theorem Cw (b base gi gd gp:Nat) (k:KM) (w:World) (hS:SetM w b base gi gd gp k) (hli:k.i.es.length<=1048576) (hld:k.d.es.length<=1048576) (hkl:k.p.es.length<=1048576):
 Calls Tryz.prog 87 #[PT b 20] w fun e w'=>(∃x,e=.returned x∧Fm w.heap.size w' x k)∧Bw w w':=by
 have HS:=hid hS;have hb:=hS.lt;obtain ⟨v1,Ev1,n1,H1,l1⟩:=al1 w #[VI 0,VI 0,SN,VI 0,VI 0,SN,VI 0,VI 0,SN] 41;have HI:Hid (∀u,Bw w u->Calls Tryz.prog 121 #[PT b 20] u fun e w'=>(∃x,e=.returned x∧TlbOwn u.heap.size w' x k.i)∧Bw u w'):=fun u hu=>by
  have S:=HS.out.keep hu;obtain ⟨c0,c1,c2⟩:=S.cellI;exact tA.1 b 20 gi k.i.es.length k.i u rfl hli S.lt (bI S.2.1.1).2.2 c0 c1 c2 (dM S.2.1.1)
 have HD:Hid (∀u,Bw w u->Calls Tryz.prog 121 #[PT b 23] u fun e w'=>(∃x,e=.returned x∧TlbOwn u.heap.size w' x k.d)∧Bw u w'):=fun u hu=>by
  have S:=HS.out.keep hu;obtain ⟨c0,c1,c2⟩:=S.cellD;exact tA.1 b 23 gd k.d.es.length k.d u rfl hld S.lt (bI S.2.1.2.1).2.2 c0 c1 c2 (dM S.2.1.2.1)
 have HP:Hid (∀u,Bw w u->Calls Tryz.prog 122 #[PT b 26] u fun e w'=>(∃x,e=.returned x∧TlbOwn u.heap.size w' x k.p)∧Bw u w'):=fun u hu=>by
  have S:=HS.out.keep hu;obtain ⟨c0,c1,c2⟩:=S.cellP;exact tA.2 b 26 gp k.p.es.length k.p u rfl hkl S.lt (bI S.2.1.2.2.1).2.2 c0 c1 c2 (dM S.2.1.2.2.1)
 have HC:=hid fun u (hu:Bw w u)=>(HS.out.keep hu).cellI.1;have nb1:b≠w.heap.size:=by omega
 have nb2:w.heap.size≠b:=by omega
 clear hS;go_enter Tryz.func87,Tryz.ntmps87;go_wp2_with fail;rw [Ev1.out];clear Ev1;have D1:=bdr v1;have A1:=bst n1 D1;have cb:=HC.out v1 n1;have HJ1:=ah H1 D1;go_region_held3 (fun w'=>w'.cell? (AD b 20)=some (VI k.i.sets)) (go_keep)
  (first
  | (go_at_call 121;(with_reducible refine (HI.out v1.drew A1).mono ?_);rintro e y1 ⟨⟨x1,rfl,hx1⟩,m1⟩;have A2:=bst A1 m1;have cb1:=HC.out y1 A2;have HJ2:=ah HJ1 m1;obtain ⟨g1,e1,rfl,o1⟩:=hx1;have O1:Hid _:=o1;clear o1)
  | (go_at_call 121;(with_reducible refine (HD.out y1 A2).mono ?_);rintro e y2 ⟨⟨x2,rfl,hx2⟩,m2⟩;have A3:=bst A2 m2;have cb2:=HC.out y2 A3;have HJ3:=ah HJ2 m2;obtain ⟨g2,e2,rfl,o2⟩:=hx2;have O2:Hid _:=o2;clear o2)
  | (go_at_call 122;(with_reducible refine (HP.out y2 A3).mono ?_);rintro e y3 ⟨⟨x3,rfl,hx3⟩,m3⟩;have A4:=bst A3 m3;have cb3:=HC.out y3 A4;have HJ4:=ah HJ3 m3;obtain ⟨g3,e3,rfl,o3⟩:=hx3;have O3:Hid _:=o3;have jj:=da HJ4.out;obtain ⟨j0,j1,j2,j3,j4,j5,j6,j7,j8⟩:=jj;have ff:=qB HJ4.out;have f0:=ff 0;have f1:=ff 1;have f2:=ff 2;have f3:=ff 3;have f4:=ff 4;have f5:=ff 5;have f6:=ff 6;have f7:=ff 7;have f8:=ff 8;clear o3 ff))
 all_goals
  go_wp2_with fail;have q1:=(bI O1.out).2;have q2:=(bI O2.out).2;have q3:=(bI O3.out).2;have z1:=m1.size;have z2:=m2.size;have z0:=D1.size;simp only at q1 q2 q3;have g9:=gb9 y3 w.heap.size;refine bodyPost_ret (v:=.agg #[VI k.i.sets,VI k.i.ways,SL g1 k.i.es.length e1,VI k.d.sets,VI k.d.ways,SL g2 k.d.es.length e2,VI k.p.sets,VI k.p.ways,SL g3 k.p.es.length e3]) (by simp [results,Tryz.results87,go_sem,j0,j1,j2,j3,j4,j5,j6,j7,j8]) rfl ⟨⟨_,rfl,g1,e1,g2,e2,g3,e3,rfl,?_,?_,?_,by omega,by omega,by omega⟩,Er A4 nle _ _ _ _ _ _ _ _ _⟩
  ·exact aJ (aG (aj (aj O1.out m2) m3) (g9 _ _ _ _ _ _ _ _ _) (by omega)) (by omega)
  ·exact aJ (aG (aj O2.out m3) (g9 _ _ _ _ _ _ _ _ _) (by omega)) (by omega)
  ·exact aJ (aG O3.out (g9 _ _ _ _ _ _ _ _ _) (by omega)) (by omega)
end Go.Proofs.YtkenjknmfhoppaaGreat
