import Derived.Test.YtkenjknmfhoppaaGreatPk21
import Derived.Recover
import Derived.Defers
import Derived.Deep.Slices
import Derived.Lib.SmallJoins
namespace Go.Proofs.YtkenjknmfhoppaaGreat
open Go.RowKit
set_option linter.unusedVariables false
set_option maxHeartbeats 6400000
set_option maxRecDepth 20000
theorem DX {O X:Nat->Prop} {m:MP} {ov:Value} {h:HartM} {ol:List (Nat × Int)} (w:World) (k:MW w O X m ov h ol):
 Calls Tryz.prog 74 #[PT m.b 18] w fun e w'=>e=.returned (.tuple #[])∧∃ov',MW w' O X m ov' h []∧w.grownBy w' (some m.b):=by
 have HK:Hid _:=k;obtain ⟨on,oc,oa,hov⟩:=k.sh;have c19:=ab k.blk 19 (v:=ov) rfl;have f19:=ap k.blk 19;have hold:=k.old;rw [hov] at c19 hold;have HOv:Hid _:=hov;clear k hov;have hsh:(oa=none∧on=0∧oc=0)∨∃g,oa=some (AD g 0)∧oc<=9223372036854775807:=by
  rcases hold.2 with ⟨h1,h2⟩ | ⟨g,cap,cur,h1,h2,h3,h4,h5,h6⟩
  ·simp only [Value.slice.injEq] at h1;exact .inl ⟨h1.1,h1.2.1,h1.2.2⟩
  ·simp only [Value.slice.injEq] at h1;exact .inr ⟨g,h1.1,by rw [h1.2.2];unfold maxLen at h5;exact h5⟩
 have fin:∀V:Value,(∃n c a,V=.slice a n c)->(∀g,V.ownBlock=some g->ov.ownBlock=some g)->w.ownsRow 0 217 2 V 0 []->∃ov',MW (w.setCell (AD m.b 19) V) O X m ov' h []∧w.grownBy (w.setCell (AD m.b 19) V) (some m.b):=by
  intro V hsV hV hoV;have g:=au (ak w (some m.b)) 19 V;have K:=HK.out;have hk:Kp (fun i=>i=m.b) w (w.setCell (AD m.b 19) V):=Kp.of_gb g rfl;refine ⟨V,⟨bB K.blk,hk.blk K.mem (Ne.symm K.bm),hk.own hoV fun g e=>(K.oo g (hV g e)).2.1,K.ob,K.om,fun g e=>K.oo g (hV g e),K.bm,K.xb,K.xm,fun i hi=>⟨(K.xo i hi).1,ltl (K.xo i hi).2 g.size⟩,K.byt,K.len,K.regs,by simp,hsV,fun i hi=>ltl (K.obd i hi) g.size,by simp⟩,g⟩
 have HFin:Hid _:=fin;clear fin;rcases hsh with ⟨rfl,rfl,rfl⟩ | ⟨g,rfl,hoc⟩
 ·go_enter Tryz.func74,Tryz.ntmps74;go_wp2;go_end0;exact ⟨rfl,HFin.out _ ⟨_,_,_,rfl⟩ (fun g e=>by simp [Value.ownBlock] at e) (World.ownsRow_nil _ _ _ _)⟩
 ·have ho0:w.ownsRow 0 217 2 (SL g 0 oc) 0 []:=by
   rcases hold.2 with ⟨h1,h2⟩ | ⟨g',cap,cur,h1,h2,h3,h4,h5,h6⟩
   ·simp at h1
   ·simp only [Value.slice.injEq,Option.some.injEq,Addr.mk.injEq] at h1;obtain ⟨⟨rfl,_⟩,_,rfl⟩:=h1;exact ⟨by simp,.inr ⟨_,_,cur,rfl,h2,h3,Nat.zero_le _,h5,h6.1,by simp⟩⟩
  have HO0:=hid ho0;have hon:on<=oc:=by
   rcases hold.2 with ⟨h1,h2⟩ | ⟨g',cap,cur,h1,h2,h3,h4,h5,h6⟩
   ·simp at h1
   ·simp only [Value.slice.injEq] at h1;omega
  clear hold ho0;go_enter Tryz.func74,Tryz.ntmps74;go_wp2;go_end0;exact ⟨rfl,HFin.out (SL g 0 oc) ⟨_,_,_,rfl⟩ (fun g' e=>by rw [HOv.out];exact e) HO0.out⟩
theorem FR {w:World} {b i:Nat} {C:Array Value} {T:TypeId} {v:Value} (x:Int) (h:w.heap[b]?=some (.cells C T (0,0))) (hv:C[i]?=some v):(Instr.storeAt 29 (PT b i) (VU x)).run Tryz.prog w=.ok () (w.setCell (AD b i) (VU x)):=by
 have c:=ab h i hv;have f:=ap h i;go_simp
theorem Ck {w:World} {b i:Nat} {C:Array Value} {T:TypeId} {v:Value} (x:Int) (h:w.heap[b]?=some (.cells C T (0,0))) (hv:C[i]?=some v):(Instr.storeAt 2 (PT b i) (VI x)).run Tryz.prog w=.ok () (w.setCell (AD b i) (VI x)):=by
 have c:=ab h i hv;have f:=ap h i;go_simp
theorem Hs {O X:Nat->Prop} {m:MP} {ov:Value} {h:HartM} {ol:List (Nat × Int)} (c t:Int) (w:World) (k:MW w O X m ov h ol):
 Calls Tryz.prog 77 #[PT m.b 0,.agg #[VI c,VU t]] w fun e w'=>e=.returned (.tuple #[])∧MW w' O X m ov ⟨h.mem,h.regs,h.tvec,2,h.sum,h.mxr,h.satp,h.tvec,h.pc,h.mode,c,t,h.k⟩ ol∧Kp (fun i=>i=m.b) w w':=by
 have HK:Hid _:=k;have hb:=k.lt;have hbk:=k.blk;clear k;obtain ⟨b,hbm⟩:∃b,m.b=b:=⟨_,rfl⟩;have HBm:Hid _:=hbm;rw [hbm] at hb hbk |-;clear hbm;obtain ⟨v1,Ev1,F⟩:=ax1 w #[VI c,VU t] 99;go_enter Tryz.func77,Tryz.ntmps77;go_upto_region 1 with fail;rw [Ev1.out];clear Ev1;obtain ⟨f1,f2,n1⟩:=F;have HB1:Hid (v1.heap[b]?=some (.cells (cV h m.gm ov m.gi m.gd m.gp m.pv) 97 (0,0))):=ae hbk n1 hb;have HF1:Hid _:=f1;have HN1:Hid _:=n1;have nbw:w.heap.size≠b:=by omega
 clear f1 f2 n1 hbk;have N1:Hid (Kp (fun i=>i=b) w v1):=Kp.of_below _ HN1.out;have HBd:Hid (v1.drew.heap[b]?=some _):=HB1;have HFd:Hid (v1.drew.heap[w.heap.size]?=some _):=HF1;have J0:∀u:HasC [((AD b 8),VU h.pc),((AD b 9),VI h.mode)],u.w.cell? (AD b 8)=some (VU h.pc):=fun u=>u.h ((AD b 8),VU h.pc) (by simp);have J1:∀u:HasC [((AD b 8),VU h.pc),((AD b 9),VI h.mode)],u.w.cell? (AD b 9)=some (VI h.mode):=fun u=>u.h ((AD b 9),VI h.mode) (by simp);have g0:∃u:HasC [((AD b 8),VU h.pc),((AD b 9),VI h.mode)],v1.drew=u.w:=⟨⟨v1.drew,by
  intro q hq;simp only [List.mem_cons,List.not_mem_nil,or_false] at hq;rcases hq with rfl | rfl
  ·exact ab HBd.out 8 rfl
  ·exact ab HBd.out 9 rfl
  ⟩,rfl⟩
 have g1:∃u:HasC [((AD b 8),VU h.pc),((AD b 9),VI h.mode)],(v1.drew.setCell (AD b 14) (VU h.pc))=u.w:=⟨⟨(v1.drew.setCell (AD b 14) (VU h.pc)),by
  intro q hq;simp only [List.mem_cons,List.not_mem_nil,or_false] at hq;rcases hq with rfl | rfl
  ·exact ab (bB (v:=VU h.pc) (i:=14) HBd.out) 8 rfl
  ·exact ab (bB (v:=VU h.pc) (i:=14) HBd.out) 9 rfl
  ⟩,rfl⟩
 have ne:Nonempty (HasC [((AD b 8),VU h.pc),((AD b 9),VI h.mode)]):=let ⟨u,_⟩:=g0;⟨u⟩
 have HB2:Hid _:=bB (v:=VI h.mode) (i:=15) (bB (v:=VU h.pc) (i:=14) HBd.out);have hgs:=au (au (ak v1.drew (some b)) 14 (VU h.pc)) 15 (VI h.mode);have HF2:Hid _:=aA HFd.out hgs nbw;have N2:Hid (Kp (fun i=>i=b) w ((v1.drew.setCell (AD b 14) (VU h.pc)).setCell (AD b 15) (VI h.mode))):=(N1.out.trans (Kp.of_below _ (brf).drew)).trans (Kp.of_gb hgs rfl);refine az (fun w'=>∃u:HasC [((AD b 8),VU h.pc),((AD b 9),VI h.mode)],w'=u.w) 15 ?_;refine fe (fuel:=4) g0 [0,1,2,3,4,5,6,7,8,9,10,11] ?_;simp only [gM,List.getElem?_toArray,List.getElem?_cons_zero,List.getElem?_cons_succ];repeat (go_big_quiet_step (fail))
 refine wpQuiet_nil ?_;refine ey 12 15 9 (T:=29) (b:=b) (off:=14) (V:=VU h.pc) (w':=v1.drew.setCell (AD b 14) (VU h.pc)) rfl (FR _ HBd.out rfl) ?_ (hS:=.inr g1);refine fe (fuel:=1) g1 [13,14] ?_;simp only [gM,List.getElem?_toArray,List.getElem?_cons_zero,List.getElem?_cons_succ];repeat (go_big_quiet_step (fail))
 refine wpQuiet_nil ?_;refine ey 15 17 13 (T:=2) (b:=b) (off:=15) (V:=VI h.mode) (w':=(v1.drew.setCell (AD b 14) (VU h.pc)).setCell (AD b 15) (VI h.mode)) rfl (Ck _ (bB HBd.out) rfl) ?_;refine dJ ?_;clear g0 g1 ne hgs J0 J1 HBd HFd;generalize ((v1.drew.setCell (AD b 14) (VU h.pc)).setCell (AD b 15) (VI h.mode))=v2 at HB2 HF2 N2 |-;go_upto_region 2 with fail;have HBd:Hid (v2.drew.heap[b]?=some _):=HB2;have HFd:Hid (v2.drew.heap[w.heap.size]?=some _):=HF2;have J0:∀u:HasC [((AD w.heap.size 0),VI c),((AD w.heap.size 1),VU t)],u.w.cell? (AD w.heap.size 0)=some (VI c):=fun u=>u.h ((AD w.heap.size 0),VI c) (by simp);have J1:∀u:HasC [((AD w.heap.size 0),VI c),((AD w.heap.size 1),VU t)],u.w.cell? (AD w.heap.size 1)=some (VU t):=fun u=>u.h ((AD w.heap.size 1),VU t) (by simp);have g0:∃u:HasC [((AD w.heap.size 0),VI c),((AD w.heap.size 1),VU t)],v2.drew=u.w:=⟨⟨v2.drew,by
  intro q hq;simp only [List.mem_cons,List.not_mem_nil,or_false] at hq;rcases hq with rfl | rfl
  ·exact ab HFd.out 0 rfl
  ·exact ab HFd.out 1 rfl
  ⟩,rfl⟩
 have g1:∃u:HasC [((AD w.heap.size 0),VI c),((AD w.heap.size 1),VU t)],(v2.drew.setCell (AD b 16) (VI c))=u.w:=⟨⟨(v2.drew.setCell (AD b 16) (VI c)),by
  intro q hq;simp only [List.mem_cons,List.not_mem_nil,or_false] at hq;rcases hq with rfl | rfl
  ·exact ab (aA HFd.out (au (ak v2.drew (some b)) 16 (VI c)) nbw) 0 rfl
  ·exact ab (aA HFd.out (au (ak v2.drew (some b)) 16 (VI c)) nbw) 1 rfl
  ⟩,rfl⟩
 have ne:Nonempty (HasC [((AD w.heap.size 0),VI c),((AD w.heap.size 1),VU t)]):=let ⟨u,_⟩:=g0;⟨u⟩
 have HB3:Hid _:=bB (v:=VU t) (i:=17) (bB (v:=VI c) (i:=16) HBd.out);have hgs:=au (au (ak v2.drew (some b)) 16 (VI c)) 17 (VU t);have HF3:Hid _:=aA HFd.out hgs nbw;have N3:Hid (Kp (fun i=>i=b) w ((v2.drew.setCell (AD b 16) (VI c)).setCell (AD b 17) (VU t))):=(N2.out.trans (Kp.of_below _ (brf).drew)).trans (Kp.of_gb hgs rfl);refine az (fun w'=>∃u:HasC [((AD w.heap.size 0),VI c),((AD w.heap.size 1),VU t)],w'=u.w) 11 ?_;refine fe (fuel:=4) g0 [0,1,2,3,4,5,6,7] ?_;simp only [gM,List.getElem?_toArray,List.getElem?_cons_zero,List.getElem?_cons_succ];repeat (go_big_quiet_step (fail))
 refine wpQuiet_nil ?_;refine ey 8 25 21 (T:=2) (b:=b) (off:=16) (V:=VI c) (w':=v2.drew.setCell (AD b 16) (VI c)) rfl (Ck _ HBd.out rfl) ?_ (hS:=.inr g1);refine fe (fuel:=1) g1 [9,10] ?_;simp only [gM,List.getElem?_toArray,List.getElem?_cons_zero,List.getElem?_cons_succ];repeat (go_big_quiet_step (fail))
 refine wpQuiet_nil ?_;refine ey 11 27 23 (T:=29) (b:=b) (off:=17) (V:=VU t) (w':=(v2.drew.setCell (AD b 16) (VI c)).setCell (AD b 17) (VU t)) rfl (FR _ (bB HBd.out) rfl) ?_;refine dJ ?_;clear g0 g1 ne hgs J0 J1 HBd HFd;generalize ((v2.drew.setCell (AD b 16) (VI c)).setCell (AD b 17) (VU t))=v3 at HB3 HF3 N3 |-;have c13:=ab HB3.out 13 (v:=VU h.tvec) rfl;have c8:=ab HB3.out 8 (v:=VU h.pc) rfl;have c9:=ab HB3.out 9 (v:=VI h.mode) rfl;have f8:=ap HB3.out 8;have f9:=ap HB3.out 9;have HB4:Hid _:=bB (v:=VI 2) (i:=9) (bB (v:=VU h.tvec) (i:=8) HB3.out);have hgs:=au (au (ak v3 (some b)) 8 (VU h.tvec)) 9 (VI 2);have N4:Hid (Kp (fun i=>i=b) w ((v3.setCell (AD b 8) (VU h.tvec)).setCell (AD b 9) (VI 2))):=N3.out.trans (Kp.of_gb hgs rfl);clear hgs;go_wp2;go_end0;generalize (v3.setCell (AD b 8) (VU h.tvec)).setCell (AD b 9) (VI 2)=v4 at HB4 N4 |-;refine ⟨rfl,?_,N4.out⟩;have K:=HK.out;have kk:=N4.out;rw [<-HBm.out] at kk HB4;exact ⟨HB4.out,kk.blk K.mem (Ne.symm K.bm),kk.own K.old fun g e=>(K.oo g e).2.1,K.ob,K.om,K.oo,K.bm,K.xb,K.xm,fun i hi=>⟨(K.xo i hi).1,ltl (K.xo i hi).2 kk.size⟩,K.byt,K.len,K.regs,K.oll,K.sh,fun i hi=>ltl (K.obd i hi) kk.size,K.oln⟩
theorem Cj:(Tryz.prog.info? 81).map (·.size)=some 18:=by kernel_rfl
theorem MW.mem' {w w':World} {O X:Nat->Prop} {m:MP} {ov:Value} {h:HartM} {ol:List (Nat × Int)} (k:MW w O X m ov h ol) (hk:Kp (fun i=>i=m.gm) w w') {mem:List Int} (hb:Blk 5 w' m.gm mem) (hl:mem.length=h.mem.length) (hm:BytM mem):MW w' O X m ov (et h mem) ol:=by
 refine ⟨?_,hb,hk.own k.old fun g e=>(k.oo g e).2.2.1,k.ob,k.om,k.oo,k.bm,k.xb,k.xm,fun i hi=>⟨(k.xo i hi).1,ltl (k.xo i hi).2 hk.size⟩,hm,by show mem.length<=4096;rw [hl];exact k.len,k.regs,k.oll,k.sh,fun i hi=>ltl (k.obd i hi) hk.size,by show ∀o∈ol,o.1<mem.length∧_;rw [hl];exact k.oln⟩;have e:cV (et h mem) m.gm ov m.gi m.gd m.gp m.pv=cV h m.gm ov m.gi m.gd m.gp m.pv:=by simp only [cV,et,hl]
 rw [e];exact hk.heap k.blk k.bm
theorem FM (w:World):(binOp .eql 20 .nilIface .nilIface).run Tryz.prog w=.ok (.bool true) w:=by kernel_rfl
theorem FN (c t:Int) (w:World):(binOp .eql 20 (.iface 99 (.agg #[VI c,VU t])) .nilIface).run Tryz.prog w=.ok (.bool false) w:=by kernel_rfl
theorem Hq (c t:Int) (w:World):(Instr.typeAssert (.iface 99 (.agg #[VI c,VU t])) 20 99 true).run Tryz.prog w=.ok (.tuple #[.agg #[VI c,VU t],.bool true]) w:=by kernel_rfl
theorem xp (pb pm pt:Addr) (w:World):
 CallsD Tryz.prog 75 #[.pointer (some pb),.pointer (some pm),.pointer (some pt)] .returning w fun e u' w'=>e=.returned (.tuple #[])∧u'=.returning∧w'=w:=by
 have qe:=FM;refine callsD_of_wpS Tryz.func75 rfl fun c₀ cs hu=>?_;apply wpS_seq;apply wpS_region;simp [wpOpsS,go_sem,recoverD,hu,Tryz.ntmps75,Exit.thenS];refine wpS_of_wp ?_;simp only [Array.replicate_succ,Array.replicate_zero,List.push_toArray,List.nil_append,List.cons_append,List.append_toArray,List.setIfInBounds_toArray,List.set_cons_succ,List.set_cons_zero];go_wp2_with fail;cases c₀
 simp_all [bodyPostS,results,Tryz.results75]
theorem xq {O X:Nat->Prop} {m:MP} {ov:Value} {hx h0:HartM} {ol:List (Nat × Int)} (pb pm pt:Nat) (c t:Int) (w:World) (k:MW w O X m ov hx ol) (hun:gZ ol hx.mem=h0.mem) (hby:BytM h0.mem) (hrg:h0.regs.length=8)
 (h1:w.heap[pb]?=some (.cells (gV h0) 81 (0,0))) (h2:w.heap[pm]?=some (.cells #[PT m.b 0] 75 (0,0))) (h3:w.heap[pt]?=some (.cells #[VI 0,VU 0] 99 (0,0))) (n1:¬O pb) (n2:¬O pm) (n3:¬O pt):
 CallsD Tryz.prog 75 #[PT pb 0,PT pm 0,PT pt 0] (.panicking [me c t]) w fun e u' w'=>e=.returned (.tuple #[])∧u'=.panicking [{ me c t with recovered:=true }]∧
  MW w' O X m ov ⟨h0.mem,h0.regs,h0.tvec,2,h0.sum,h0.mxr,h0.satp,h0.tvec,h0.pc,h0.mode,c,t,hx.k⟩ ol∧w'.heap[pt]?=some (.cells #[VI c,VU t] 99 (0,0))∧Kp (fun i=>i=m.b∨i=m.gm∨i=pt) w w':=by
 have qe:=FN c t;have qt:=Hq c t;refine callsD_of_wpS Tryz.func75 rfl fun c₀ cs hu=>?_;apply wpS_seq;apply wpS_region;simp [wpOpsS,go_sem,recoverD,hu,me,Tryz.ntmps75,Exit.thenS];refine wpS_of_wp ?_;simp only [Array.replicate_succ,Array.replicate_zero,List.push_toArray,List.nil_append,List.cons_append,List.append_toArray,List.setIfInBounds_toArray,List.set_cons_succ,List.set_cons_zero];go_upto_region 5 with fail;obtain ⟨v1,Ev1,F⟩:=ax1 w #[VI c,VU t] 99;rw [Ev1.out];clear Ev1;obtain ⟨f1,f2,nn⟩:=F;have K1:=hid (k.low nn);have HF1:Hid _:=f1;have HN1:Hid _:=nn;have H11:=hid (ae h1 nn (hpl h1));have H21:=hid (ae h2 nn (hpl h2));have H31:=hid (ae h3 nn (hpl h3));have hptl:=(hpl h3);have hbl:=k.lt;have nO:¬O w.heap.size:=fun h=>by have:=k.obd _ h;omega
 have npm:pm≠m.b:=fun e=>n2 (e ▸ k.ob);have npt:pt≠m.b:=fun e=>n3 (e ▸ k.ob);have HOb:=k.ob;have HOm:=k.om;clear f1 f2 nn h1 h2 h3 k;have HL:Hid _:=aT (P:=Tryz.prog) (T:=81) H11.out Tryz.underlying81 rfl (by kernel_rfl);have HS:Hid _:=fG (P:=Tryz.prog) (T:=81) (o:=0) (V:=gV h0) K1.out.blk (by kernel_rfl) (by simp [gV,cV]) (by simp [gV,Value.oneCell']);have HB2:Hid ((v1.setCells m.b 0 (gV h0).toList).heap[m.b]?=some (.cells (cV ⟨hx.mem,h0.regs,h0.pc,h0.mode,h0.sum,h0.mxr,h0.satp,h0.tvec,h0.epc,h0.emode,h0.cause,h0.tval,hx.k⟩ m.gm ov m.gi m.gd m.gp m.pv) 97 (0,0))):=by
  have:=dC m.b (gV h0).toList 0 v1 _ _ _ K1.out.blk (by simp [gV,cV]);exact this
 have hg2:=aG m.b (gV h0).toList 0 v1 v1 (ak v1 _);have K2:Hid _:=K1.out.put hg2 HB2.out rfl hrg;have H22:Hid _:=aA H21.out hg2 npm;have H32:Hid _:=aA H31.out hg2 npt;have HF2:Hid _:=aA HF1.out hg2 (show w.heap.size≠m.b by omega);have N2:Hid (Kp (fun i=>i=m.b∨i=m.gm∨i=pt) w (v1.setCells m.b 0 (gV h0).toList)):=(Kp.of_below _ HN1.out).trans (Kp.of_gb hg2 (.inl rfl));have cpm:=ab H21.out 0 (v:=PT m.b 0) rfl;clear HB2 hg2;obtain ⟨CA,hCA⟩:∃CA,gV h0=CA:=⟨_,rfl⟩;rw [hCA] at HL HS K2 H22 H32 HF2 N2;clear hCA;go_upto_region 6 with (first
  | ((with_reducible refine aZ ?_ HL.out ?_);(exact rfl))
  | ((with_reducible refine ax ?_ ?_ HS.out ?_);(exact rfl);(exact rfl)))
 generalize v1.setCells m.b 0 CA.toList=v2 at K2 H22 H32 HF2 N2 |-;clear cpm HL HS H11 H21 H31 HF1 K1 HN1;have cpm:=ab H22.out 0 (v:=PT m.b 0) rfl;go_wp2_with fail;refine (DK v2 K2.out).mono ?_;rintro e v3 ⟨rfl,hm3,hk3⟩;have hgm:∀i,¬O i->¬(i=m.gm):=fun i hi e=>hi (e ▸ HOm);have hmx:=hun;have K3:=hid (K2.out.mem' hk3 (mem:=h0.mem) (by rw [<-hmx];exact hm3) (by rw [<-hmx,zG]) hby);have H23:=Kp.hid H22 hk3 (hgm _ n2);have H33:=Kp.hid H32 hk3 (hgm _ n3);have HF3:=Kp.hid HF2 hk3 (hgm _ nO);have N3:=hid (N2.out.trans (hk3.mono fun i e=>.inr (.inl e)));clear hm3 hk3 cpm K2 H22 H32 HF2 N2;go_upto_region 7 with fail;have cpm:=ab H23.out 0 (v:=PT m.b 0) rfl;have t0:=ab HF3.out 0 (v:=VI c) rfl;have t1:=ab HF3.out 1 (v:=VU t) rfl;refine dz 4 (by kernel_rfl) (by kernel_rfl) ?_;simp only [List.take_succ_cons,List.take_zero,List.drop_succ_cons,List.drop_zero];repeat still_step
 refine wpStill_nil ?_;have Dd:=bdr v3;clear cpm t0 t1;go_wp2_with fail;refine (Hs c t v3.drew (K3.out.low Dd)).mono ?_;rintro e v4 ⟨rfl,k4,kp4⟩;have hgb:∀i,¬O i->¬(i=m.b):=fun i hi e=>hi (e ▸ HOb);have K4:Hid _:=k4;have HF4:Hid _:=kp4.heap (show v3.drew.heap[w.heap.size]?=_ from HF3.out) (hgb _ nO);have H34:Hid _:=kp4.heap (show v3.drew.heap[pt]?=_ from H33.out) (hgb _ n3);have N4:Hid (Kp (fun i=>i=m.b∨i=m.gm∨i=pt) w v4):=(N3.out.trans (Kp.of_below _ Dd)).trans (kp4.mono fun i e=>.inl e);clear k4 kp4 H23 H33 HF3 N3 K3;have t0:=ab HF4.out 0 (v:=VI c) rfl;have t1:=ab HF4.out 1 (v:=VU t) rfl;have p0:=ab H34.out 0 (v:=VI 0) rfl;have p1:=ab H34.out 1 (v:=VU 0) rfl;have q0:=ap H34.out 0;have q1:=ap H34.out 1;have nwp:w.heap.size≠pt:=by omega
 have nwp':pt≠w.heap.size:=by omega
 have g5:=au (au (ak v4 (some pt)) 0 (VI c)) 1 (VU t);have H35:Hid _:=bB (v:=VU t) (i:=1) (bB (v:=VI c) (i:=0) H34.out);have hk5:Kp (fun i=>i=pt) v4 ((v4.setCell (AD pt 0) (VI c)).setCell (AD pt 1) (VU t)):=Kp.of_gb g5 rfl;have N5:Hid (Kp (fun i=>i=m.b∨i=m.gm∨i=pt) w ((v4.setCell (AD pt 0) (VI c)).setCell (AD pt 1) (VU t))):=N4.out.trans (hk5.mono fun i e=>.inr (.inr e));have K5:Hid (MW ((v4.setCell (AD pt 0) (VI c)).setCell (AD pt 1) (VU t)) O X m ov ⟨h0.mem,h0.regs,h0.tvec,2,h0.sum,h0.mxr,h0.satp,h0.tvec,h0.pc,h0.mode,c,t,hx.k⟩ ol):=by
  have K:=K4.out;refine ⟨hk5.heap K.blk (fun e=>n3 (e ▸ K.ob)),hk5.blk K.mem (fun e=>n3 (e ▸ K.om)),hk5.own K.old fun g e e'=>n3 (e' ▸ (K.oo g e).1),K.ob,K.om,K.oo,K.bm,K.xb,K.xm,fun i hi=>⟨(K.xo i hi).1,ltl (K.xo i hi).2 hk5.size⟩,K.byt,K.len,K.regs,K.oll,K.sh,fun i hi=>ltl (K.obd i hi) hk5.size,K.oln⟩
 clear g5 hk5;go_wp2_with fail;generalize (v4.setCell (AD pt 0) (VI c)).setCell (AD pt 1) (VU t)=v5 at H35 N5 K5 |-;exact ⟨rfl,_,rfl,_,results_none rfl _ _ _,rfl,rfl,K5.out,H35.out,N5.out⟩
section
variable {P:Program} {ops:Array Oper} {Q:Exit->Act->World->Prop} {F:World->Prop} {c:Nat}
theorem vK (ns:Region.noSelect ops=true) {fuel:Nat} {w:World} (hF:F w):∀(is:List Nat) (s:Array Bool) (a:Act),(∀i∈is,∀o,ops[i]?=some o->∀x a v w,Q (.panic x) (a.put o.dst v) w->Q (.panic x) a w)->DA ops c is s=true->
 wpQuiet P ops F (fun a'=>bw P ops Q F c fuel (vf is s) a' w) (gM ops is) a->bw P ops Q F c (fuel+is.length) s a w
 | [],s,a,_,_,h=>h
 | i::is,s,a,hQ,hB,h=>by
  simp only [DA,Bool.and_eq_true] at hB;obtain ⟨⟨⟨⟨⟨⟨h1,h2⟩,h3⟩,h4⟩,h5⟩,h6⟩,h7⟩:=hB;cases ho:ops[i]? with
  | none=>rw [ho] at h6;cases h6
  | some o=>
   rw [ho] at h6;simp only [gM,ho,wpQuiet] at h;have key:∀v,YieldsIf P ops (fun w=>∃l,Closed ops l∧l.getD i true=false∧(l.getD c false=false->F w)) o v a->wpQuiet P ops F (fun a'=>bw P ops Q F c fuel (vf is (s.setIfInBounds i true)) a' w) (gM ops is) (a.put o.dst v)->bw P ops Q F c (fuel+(i::is).length) s a w:=fun v hy hn=>
    lK ho (by simpa using h4) (Region.noSelect_spec ns) (fun x a w=>hQ i (by simp) o ho x a _ w) (fuel+is.length) s a w (jx h1) (Region.free_spec ho h2) (by simpa using h3) hy (fun _=>hF) (vK ns hF is _ _ (fun j hj=>hQ j (by simp [hj])) h7 hn)
   split at h
   ·rename_i hw;obtain ⟨v,hv,hn⟩:=h;refine key v (.inl ⟨hw,fun u ⟨l,l1,l2,l3⟩=>?_⟩) hn;have hFu:F u:=l3 (by
     cases hh:l.getD c false
     ·rfl
     ·have:=JP l1 _ _ h5 hh;rw [xz l2] at this;cases this)
    have hq:=hv u hFu;unfold Oper.quietAt at hq;generalize hr:(execOp a.eval o).run P u=r at hq;cases r with
    | halt x w1=>exact hq.elim
    | ok n w1=>
     obtain ⟨x,rfl⟩:=tC h6 hr;obtain ⟨rfl,rfl⟩:=hq;rfl
   ·rename_i hw;exact key undef (.inr ⟨by simpa using hw,rfl⟩) h
end
theorem mV {P:Program} {fn:Func} {t t':Array Value} {R:Ending->World->Prop} (hr:results fn t'=results fn t):∀(ds:List Deferred) (u:FrameMode) (w:World),Leaves P fn t' R ds u w->Leaves P fn t R ds u w
 | [],.returning,w,h=>by
  obtain ⟨v,h1,h2⟩:=h;rw [hr] at h1;exact ⟨v,h1,h2⟩
 | [],.panicking ch,w,h=>h
 | [],.run,w,h=>h
 | d::ds,u,w,h=>by
  obtain ⟨h1,fv,cap,f,args,h2,h3,h4⟩:=h;refine ⟨h1,fv,cap,f,args,h2,h3,h4.mono ?_⟩;intro e u' w' hh;cases e with
  | returned v=>exact mV hr ds _ _ hh
  | panicked ch=>exact mV hr ds _ _ hh
  | outgrown=>exact hh
theorem pH (v:Value) (t:TlbM) (w:World) (h:TlbAt w v t):
 Calls Tryz.prog 107 #[v] w fun e w'=>(∃s y l n c,e=.returned (.tuple #[.agg #[VI s,VI y,.slice l n c],.bool (aY t false)])∧(aY t false=true->∃g,s=t.sets∧y=t.ways∧l=some (AD g 0)∧n=t.es.length∧c=t.es.length∧w'.ownsRow w.heap.size 246 6 (SL g t.es.length t.es.length) t.es.length (aC t.es)))∧Bw w w':=by
 refine (qk.1 v t w h).mono ?_;rintro e w' ⟨hc,nb⟩;refine ⟨?_,nb⟩;cases hv:aY t false
 ·rw [hv] at hc;dsimp only [cond] at hc;exact ⟨_,_,_,_,_,hc,fun h=>by cases h⟩
 ·rw [hv] at hc;dsimp only [cond] at hc;obtain ⟨g,he,ho⟩:=hc;exact ⟨_,_,_,_,_,he,fun _=>⟨g,rfl,rfl,rfl,rfl,rfl,ho⟩⟩
theorem vS (v:Value) (t:TlbM) (w:World) (h:TlbAt w v t):
 Calls Tryz.prog 108 #[v] w fun e w'=>(∃s y l n c,e=.returned (.tuple #[.agg #[VI s,VI y,.slice l n c],.bool (aY t true)])∧(aY t true=true->∃g,s=t.sets∧y=t.ways∧l=some (AD g 0)∧n=t.es.length∧c=t.es.length∧w'.ownsRow w.heap.size 251 6 (SL g t.es.length t.es.length) t.es.length (aC t.es)))∧Bw w w':=by
 refine (qk.2 v t w h).mono ?_;rintro e w' ⟨hc,nb⟩;refine ⟨?_,nb⟩;cases hv:aY t true
 ·rw [hv] at hc;dsimp only [cond] at hc;exact ⟨_,_,_,_,_,hc,fun h=>by cases h⟩
 ·rw [hv] at hc;dsimp only [cond] at hc;obtain ⟨g,he,ho⟩:=hc;exact ⟨_,_,_,_,_,he,fun _=>⟨g,rfl,rfl,rfl,rfl,rfl,ho⟩⟩
def Eg (base:Nat) (w:World) (e:Ending) (k:KM):Prop:=∃gi gd gp,e=.returned (.tuple #[.agg (iu k gi gd gp),.bool true])∧RowsAt w base gi gd gp k
theorem sg (v:Value) (k:KM) (w:World) (h:KAt w v k):
 Calls Tryz.prog 69 #[v] w fun e w'=>cond (cS k) (Eg w.heap.size w' e k) (e=.returned (.tuple #[.agg #[VI 0,VI 0,SN,VI 0,VI 0,SN,VI 0,VI 0,SN],.bool false]))∧Bw w w':=by
 obtain ⟨a1,c1,a2,c2,a3,c3,rfl,T1,T2,T3⟩:=h;obtain ⟨q1,hq1⟩:∃q,aY k.i false=q:=⟨_,rfl⟩;obtain ⟨q2,hq2⟩:∃q,aY k.d false=q:=⟨_,rfl⟩;obtain ⟨q3,hq3⟩:∃q,aY k.p true=q:=⟨_,rfl⟩;have HQ1:=hid hq1;have HQ2:=hid hq2;have HQ3:=hid hq3;have hgood:cS k=(q1 && q2 && q3):=by unfold cS;rw [hq1,hq2,hq3]
 rw [hgood];clear hgood hq1 hq2 hq3;have HT1:=hid fun u (hu:Bw w u)=>T1.keep hu;have HT2:=hid fun u (hu:Bw w u)=>T2.keep hu;have HT3:=hid fun u (hu:Bw w u)=>T3.keep hu;clear T1 T2 T3;have n1:=((Below.refl w.heap.size w).alloc nle (Obj.cells #[VI k.i.sets,VI k.i.ways,.slice a1 k.i.es.length c1,VI k.d.sets,VI k.d.ways,.slice a2 k.d.es.length c2,VI k.p.sets,VI k.p.ways,.slice a3 k.p.es.length c3] 41)).alloc (by simp) (Obj.cells #[VI 0,VI 0,SN,VI 0,VI 0,SN,VI 0,VI 0,SN] 93);have H1:Hid (((w.alloc (Obj.cells #[VI k.i.sets,VI k.i.ways,.slice a1 k.i.es.length c1,VI k.d.sets,VI k.d.ways,.slice a2 k.d.es.length c2,VI k.p.sets,VI k.p.ways,.slice a3 k.p.es.length c3] 41)).alloc (Obj.cells #[VI 0,VI 0,SN,VI 0,VI 0,SN,VI 0,VI 0,SN] 93)).heap[w.heap.size]?=some (.cells #[VI k.i.sets,VI k.i.ways,.slice a1 k.i.es.length c1,VI k.d.sets,VI k.d.ways,.slice a2 k.d.es.length c2,VI k.p.sets,VI k.p.ways,.slice a3 k.p.es.length c3] 41 (0,0))):=by
  exact (ku w _ _ _ _).1
 have H2:Hid (((w.alloc (Obj.cells #[VI k.i.sets,VI k.i.ways,.slice a1 k.i.es.length c1,VI k.d.sets,VI k.d.ways,.slice a2 k.d.es.length c2,VI k.p.sets,VI k.p.ways,.slice a3 k.p.es.length c3] 41)).alloc (Obj.cells #[VI 0,VI 0,SN,VI 0,VI 0,SN,VI 0,VI 0,SN] 93)).heap[w.heap.size+1]?=some (.cells #[VI 0,VI 0,SN,VI 0,VI 0,SN,VI 0,VI 0,SN] 93 (0,0))):=by
  have:=fE (w.alloc (Obj.cells #[VI k.i.sets,VI k.i.ways,.slice a1 k.i.es.length c1,VI k.d.sets,VI k.d.ways,.slice a2 k.d.es.length c2,VI k.p.sets,VI k.p.ways,.slice a3 k.p.es.length c3] 41)) (Obj.cells #[VI 0,VI 0,SN,VI 0,VI 0,SN,VI 0,VI 0,SN] 93);simp only [World.size_alloc] at this;exact this
 have l1:((w.alloc (Obj.cells #[VI k.i.sets,VI k.i.ways,.slice a1 k.i.es.length c1,VI k.d.sets,VI k.d.ways,.slice a2 k.d.es.length c2,VI k.p.sets,VI k.p.ways,.slice a3 k.p.es.length c3] 41)).alloc (Obj.cells #[VI 0,VI 0,SN,VI 0,VI 0,SN,VI 0,VI 0,SN] 93)).heap.size=w.heap.size+2:=by simp
 go_enter Tryz.func69,Tryz.ntmps69;go_wp2_with fail;generalize ((w.alloc (Obj.cells #[VI k.i.sets,VI k.i.ways,.slice a1 k.i.es.length c1,VI k.d.sets,VI k.d.ways,.slice a2 k.d.es.length c2,VI k.p.sets,VI k.p.ways,.slice a3 k.p.es.length c3] 41)).alloc (Obj.cells #[VI 0,VI 0,SN,VI 0,VI 0,SN,VI 0,VI 0,SN] 93))=u0 at n1 H1 H2 l1 |-;have A1:=n1;have I1:=H1;have J1:=H2;clear n1 H1 H2;refine (pH _ k.i u0 (HT1.out u0 A1)).mono ?_;rw [HQ1.out];rintro e z1 ⟨⟨s1,y1,t1,x1,cc1,rfl,hv1⟩,nz1⟩;have HV1:Hid _:=hv1;have m1:=nz1.alloc nz1.size (Obj.cells #[VI s1,VI y1,.slice t1 x1 cc1] 88);have mz1:=(Below.refl z1.heap.size z1).alloc nle (Obj.cells #[VI s1,VI y1,.slice t1 x1 cc1] 88);have B11:Hid ((z1.alloc (Obj.cells #[VI s1,VI y1,.slice t1 x1 cc1] 88)).heap[z1.heap.size]?=some (.cells #[VI s1,VI y1,.slice t1 x1 cc1] 88 (0,0))):=fE z1 _;have A2:=bst A1 m1;have J2:=ah J1 m1;have I2:=ah I1 m1;have IZ1:=jM (ah I1 nz1).out;have lz1:=(hpl (ah I1 nz1).out);have ls1:=nz1.size;have lt1:z1.heap.size<(z1.alloc (Obj.cells #[VI s1,VI y1,.slice t1 x1 cc1] 88)).heap.size:=by simp
 obtain ⟨b0,b1,b2,b3,b4,b5,b6,b7,b8⟩:=IZ1;clear hv1 nz1;go_wp2_with fail;generalize z1.alloc (Obj.cells #[VI s1,VI y1,.slice t1 x1 cc1] 88)=u1 at m1 mz1 B11 A2 J2 I2 lt1 |-;clear b0 b1 b2 b3 b4 b5 b6 b7 b8;refine (pH _ k.d u1 (HT2.out u1 A2)).mono ?_;rw [HQ2.out];rintro e z2 ⟨⟨s2,y2,t2,x2,cc2,rfl,hv2⟩,nz2⟩;have HV2:Hid _:=hv2;have m2:=nz2.alloc nz2.size (Obj.cells #[VI s2,VI y2,.slice t2 x2 cc2] 88);have mz2:=(Below.refl z2.heap.size z2).alloc nle (Obj.cells #[VI s2,VI y2,.slice t2 x2 cc2] 88);have B22:Hid ((z2.alloc (Obj.cells #[VI s2,VI y2,.slice t2 x2 cc2] 88)).heap[z2.heap.size]?=some (.cells #[VI s2,VI y2,.slice t2 x2 cc2] 88 (0,0))):=fE z2 _;have A3:=bst A2 m2;have J3:=ah J2 m2;have I3:=ah I2 m2;have B21:=ah B11 m2;have IZ2:=jM (ah I2 nz2).out;have lz2:=(hpl (ah I2 nz2).out);have ls2:=nz2.size;have lt2:z2.heap.size<(z2.alloc (Obj.cells #[VI s2,VI y2,.slice t2 x2 cc2] 88)).heap.size:=by simp
 obtain ⟨b0,b1,b2,b3,b4,b5,b6,b7,b8⟩:=IZ2;clear hv2 nz2;go_wp2_with fail;generalize z2.alloc (Obj.cells #[VI s2,VI y2,.slice t2 x2 cc2] 88)=u2 at m2 mz2 B22 A3 J3 I3 lt2 B21 |-;clear b0 b1 b2 b3 b4 b5 b6 b7 b8;refine (vS _ k.p u2 (HT3.out u2 A3)).mono ?_;rw [HQ3.out];rintro e z3 ⟨⟨s3,y3,t3,x3,cc3,rfl,hv3⟩,nz3⟩;have HV3:Hid _:=hv3;have A4:=bst A3 nz3;have J4:=ah J3 nz3;have B31:=ah B21 nz3;have B32:=ah B22 nz3;have q31:=(hpl B31.out);have q32:=(hpl B32.out);have q33:=(hpl J4.out);clear hv3;obtain ⟨p0,p1,p2⟩:=(aE B31.out).1;obtain ⟨p3,p4,p5⟩:=(aE B32.out).1;obtain ⟨d0,d1,d2,d3,d4,d5,d6,d7,d8⟩:=jM J4.out;have ff:=ve J4.out;have f0:=ff 0;have f1:=ff 1;have f2:=ff 2;have f3:=ff 3;have f4:=ff 4;have f5:=ff 5;have f6:=ff 6;have f7:=ff 7;have f8:=ff 8;clear ff;have r31:z1.heap.size≠z3.heap.size:=by omega
 have r32:z2.heap.size≠z3.heap.size:=by omega
 have r33:w.heap.size+1≠z3.heap.size:=by omega
 by_cases hall:q1=true∧q2=true∧q3=true
 ·obtain ⟨rfl,rfl,rfl⟩:=hall;obtain ⟨gi,rfl,rfl,rfl,rfl,rfl,oi⟩:=HV1.out (by trivial);obtain ⟨gd,rfl,rfl,rfl,rfl,rfl,od⟩:=HV2.out (by trivial);obtain ⟨gp,rfl,rfl,rfl,rfl,rfl,op⟩:=HV3.out (by trivial);have lgi:=(db oi).2;have lgd:=(db od).2;have lgp:=(db op).2;simp only at lgi lgd lgp;have oi':=aq (aq (aq oi mz1) m2) nz3;have od':=aq (aq od mz2) nz3;have s1':=m2.size;have s2':=nz3.size;have s3':=m1.size;go_wp2_with fail;refine bodyPost_ret (v:=.tuple #[.agg (iu k gi gd gp),.bool true]) (by simp [results,Tryz.results69,go_sem,iu,d0,d1,d2,d3,d4,d5,d6,d7,d8,q33]) rfl ⟨⟨gi,gd,gp,rfl,?_⟩,(IE A4 (by omega) _ _ _ _ _ _ _ _ _).alloc (by simp;omega) _⟩;have g9:=gb9 z3 (w.heap.size+1);exact RowsAt.keep ⟨bW (aD oi' (g9 _ _ _ _ _ _ _ _ _) (by omega)) (by omega),bW (aD od' (g9 _ _ _ _ _ _ _ _ _) (by omega)) (by omega),bW (aD op (g9 _ _ _ _ _ _ _ _ _) (by omega)) (by omega),by omega,by omega,by omega⟩ ((brf).alloc nle _)
 ·have hall':(q1 && q2 && q3)=false:=by
   cases q1 <;> cases q2 <;> cases q3 <;> simp at hall |-
  cases q1 <;> cases q2 <;> cases q3;all_goals first | (exfalso;simp at hall';done) | skip
  all_goals
   go_wp2_with fail;exact bodyPost_ret (v:=.tuple #[.agg #[VI 0,VI 0,SN,VI 0,VI 0,SN,VI 0,VI 0,SN],.bool false]) (by simp [results,Tryz.results69,go_sem,d0,d1,d2,d3,d4,d5,d6,d7,d8,q33]) rfl ⟨rfl,(IE A4 (by omega) _ _ _ _ _ _ _ _ _).alloc (by simp;omega) _⟩
section
open Go.RowKit Go.Joins Go.ChangeShapes Go.WideShapes Go.ChangeAt
def tlbIn (w:World) (t:TlbM) (a:Option Addr) (cap:Nat):Prop:=
 RowC w a t.es.length 6 (cH t.es)∧(∀e∈t.es,iW e)∧(-9223372036854775808<=t.sets∧t.sets<=9223372036854775807)∧(-9223372036854775808<=t.ways∧t.ways<=9223372036854775807)∧t.es.length<=cap∧(cap:Int)<=9223372036854775807
end
theorem xP (w:World):(method 444 72 (.agg #[]) "loop.example/s0051/impl.phys").run Tryz.prog w=.ok (193,.agg #[]) w:=by kernel_rfl
theorem vY (w:World):(method 444 72 (.agg #[]) "loop.example/s0051/impl.fence").run Tryz.prog w=.ok (220,.agg #[]) w:=by kernel_rfl
theorem vZ (w:World):(method 444 72 (.agg #[]) "loop.example/s0051/impl.begin").run Tryz.prog w=.ok (187,.agg #[]) w:=by kernel_rfl
theorem Ag (args:Array Value) (w:World):(callFunc 193 args).run Tryz.prog w=.ok (.enter 193 args) w:=by kernel_rfl
theorem xQ (args:Array Value) (w:World):(callFunc 220 args).run Tryz.prog w=.ok (.enter 220 args) w:=by kernel_rfl
theorem rn (args:Array Value) (w:World):(callFunc 187 args).run Tryz.prog w=.ok (.enter 187 args) w:=by kernel_rfl
theorem sB (zs:List Int) (mode:Int) (sum mxr:Bool) (satp kind va:Int) (hk:0<=kind∧kind<=2) (hm:0<=mode∧mode<=2):
 gx zs mode sum mxr satp kind va=(if (hZ zs mode sum mxr satp kind va).2=1 then 0 else if (hZ zs mode sum mxr satp kind va).2=2 then fk kind else bY kind,(hZ zs mode sum mxr satp kind va).1)∧((hZ zs mode sum mxr satp kind va).2=1∨(hZ zs mode sum mxr satp kind va).2=2∨(hZ zs mode sum mxr satp kind va).2=3):=by
 have hcd:=lG zs satp va;refine ⟨?_,?_⟩
 ·unfold gx;rw [if_neg (by omega)];unfold hZ;cases onM mode satp
  ·simp
  ·simp only [Bool.true_eq_false,if_false];exact Ad (bO zs satp va) mode sum mxr kind va hcd
 ·unfold hZ;cases onM mode satp
  ·simp
  ·simp only [Bool.true_eq_false,if_false];exact Ct (bO zs satp va) mode sum mxr kind va hcd
theorem Bp (r:RunM) (sv:Value) (kind va:Int) (w:World) (hs:SrcAt w sv r.h.mem) (hr:ROk r) (hv:inU va):
 Calls Tryz.prog 193 #[.agg #[],sv,ki r.h,VI kind,VU va] w fun e w'=>e=.returned (.tuple #[VU (hZ r.h.mem r.h.mode r.h.sum r.h.mxr r.h.satp kind va).1,cK (hZ r.h.mem r.h.mode r.h.sum r.h.mxr r.h.satp kind va).2])∧Bw w w':=by
 have F:=ku w #[] #[VI r.h.mode,.bool r.h.sum,.bool r.h.mxr,VU r.h.satp] 72 134;have HS:Hid _:=hs;have hsp:=hr.h.satp;obtain ⟨hv0,hv1⟩:=hv;clear hs hr;generalize r.h.mem=zs at HS |-;unfold ki;generalize r.h.satp=satp at hsp F |-;generalize r.h.mode=mode at F |-;generalize r.h.sum=sum at F |-;generalize r.h.mxr=mxr at F |-;go_enter Tryz.func193,Tryz.ntmps193;go_upto_region 1 with fail;generalize (w.alloc (Obj.cells #[] 72)).alloc (Obj.cells #[VI mode,.bool sum,.bool mxr,VU satp] 134)=v1 at F |-;obtain ⟨f1,f2,f3,n1⟩:=F;have c0:=ab f2 0 (v:=VI mode) rfl;have c1:=ab f2 1 (v:=.bool sum) rfl;have c2:=ab f2 2 (v:=.bool mxr) rfl;have c3:=ab f2 3 (v:=VU satp) rfl;have HN1:Hid _:=n1;have HC:Hid _:=uj sv zs mode sum mxr satp kind va v1 (SrcAt.keep HS.out n1) hv0 hv1 hsp.1 hsp.2;unfold iH at HC;clear f1 f2 f3 n1;go_wp2_with fail;refine Calls.mono HC.out ?_;rintro e v2 ⟨rfl,n2⟩;have HN2:=hid (bst HN1.out n2);obtain ⟨A,hA⟩:∃A,hZ zs mode sum mxr satp kind va=A:=⟨_,rfl⟩;rw [hA];have HA:Hid _:=hA;clear hA n2 c0 c1 c2 c3;go_wp2_with fail;exact bodyPost_ret (v:=.tuple #[VU A.1,cK A.2]) (by simp [results,Tryz.results193,go_sem]) rfl ⟨by rw [HA.out],HN2.out⟩
theorem xR (pick:Int) (w:World):Calls Tryz.prog 187 #[.agg #[],VI pick] w fun e w'=>e=.returned (.tuple #[])∧Bw w w':=by
 have F:=bX w #[] 72;go_enter Tryz.func187,Tryz.ntmps187;go_wp2_with fail;exact ⟨rfl,.tuple #[],by kernel_rfl,rfl,F.2.2⟩
theorem Ej (cv:Value) (w:World):Calls Tryz.prog 220 #[.agg #[],cv] w fun e w'=>e=.returned (.tuple #[])∧Bw w w':=by
 have F:=bX w #[] 72;go_enter Tryz.func220,Tryz.ntmps220;go_wp2_with fail;exact ⟨rfl,.tuple #[],by kernel_rfl,rfl,F.2.2⟩
structure Path (m:MP) (plain:Bool) (base:Nat) (X:Nat->Prop) (PI:KM->World->Prop) (PA:Int->World->RunM->Prop):Prop where
 ok:∀pick h0,0<=pick∧pick<=255->PathOk m plain pick h0 X (PI h0.k) (PA pick)
 next:∀pick w r,PA pick w r->PI r.h.k w
 rows:∀k w,PI k w->RowsAt w base m.gi m.gd m.gp k
theorem Path.cached (m:MP) (pb base:Nat) (hd:CDist m pb) (hbp:m.b≠pb):Path m false base (cX m pb) (cI m pb base) (fun pick w r=>cA m pb base pick r.h.k w):=
 ⟨fun pick h0 hp=>yO m pb base hd hbp pick hp h0,fun pick w r h=>⟨pick,h⟩,fun k w h=>h.elim fun _ h=>h.1⟩
def pX (m:MP) (i:Nat):Prop:=i=m.gi∨i=m.gd∨i=m.gp
theorem qH {w w':World} {m:MP} {base:Nat} {k:KM} (h:RowsAt w base m.gi m.gd m.gp k) (hx:∀i,pX m i->w'.heap[i]?=w.heap[i]?):RowsAt w' base m.gi m.gd m.gp k:=
 ⟨kP h.1 (hx _ (.inl rfl)),kP h.2.1 (hx _ (.inr (.inl rfl))),kP h.2.2.1 (hx _ (.inr (.inr rfl))),h.2.2.2⟩
theorem jE {w w':World} {m:MP} {base:Nat} {k:KM} (h:RowsAt w base m.gi m.gd m.gp k) (n:Bw w w'):RowsAt w' base m.gi m.gd m.gp k:=h.keep n
theorem Path.plain (m:MP) (base:Nat) (hpd:m.pd=72) (hpx:m.px=.agg #[]):Path m true base (pX m) (fun k w=>RowsAt w base m.gi m.gd m.gp k) (fun _ w r=>RowsAt w base m.gi m.gd m.gp r.h.k):=by
 refine ⟨fun pick h0 hp=>⟨fun w w' r h _ hx=>qH h hx,fun w w' h _ hx=>qH h hx,fun w r r' h e _ _ _=>by rw [e];exact h,?_,?_,?_⟩,fun _ _ _ h=>h,fun _ _ h=>h⟩
 ·intro w r sv kind va hA _ hs hc hr hk0 hk2 hv;rw [hpd,hpx];refine ⟨_,_,xP w,fun args u=>Ag args u,?_⟩;refine (Bp r sv kind va w (hs w (Kp.refl _ w)) hr hv).mono ?_;rintro e w' ⟨rfl,n⟩;have h:=sB r.h.mem r.h.mode r.h.sum r.h.mxr r.h.satp kind va ⟨hk0,hk2⟩ hr.h.v.mode;refine ⟨_,_,rfl,h.2,?_,?_,Kp.of_below _ n⟩
  ·unfold aV;rw [if_pos rfl];exact h.1
  ·exact jE (m:=m) hA n
 ·intro w r cv f hA _ _ _ _ _ _;rw [hpd,hpx];refine ⟨_,_,vY w,fun args u=>xQ args u,?_⟩;exact (Ej cv w).mono fun e w' h=>⟨h.1,jE (m:=m) hA h.2,Kp.of_below _ h.2⟩
 ·intro w hI _ _;rw [hpd,hpx];refine ⟨_,_,vZ w,fun args u=>rn args u,?_⟩;refine (xR pick w).mono fun e w' h=>⟨h.1,?_,Kp.of_below _ h.2⟩;have e:(bI true pick h0).h.k=h0.k:=by
   unfold bI fi;rw [if_neg (by simp)];rfl
  rw [e];exact jE (m:=m) hI h.2
end Go.Proofs.YtkenjknmfhoppaaGreat
