import Derived.Deep.DeepAppendRoom
import Derived.Test.YthdgiakgepmabaaGreatDk40
import Derived.Laws.BytesArg
namespace Go.Proofs.YthdgiakgepmabaaGreat
open Go.RowKit
set_option linter.unusedVariables false
set_option maxHeartbeats 6400000
set_option maxRecDepth 20000
theorem Dq {w w':World} (h:w.grownBy w' none):Bw w w':=⟨h.os,h.tape,h.output,h.size,fun i hi=>h.block i hi (by simp)⟩
theorem Gc (n:Nat) (hn:n<=20000) (base:Nat) (u:World) (hb:base<=u.heap.size):∃u',(Instr.makeSlice 31 (VI 0) (VI (n:Int))).run Tryz.prog u=.ok (SL u.heap.size 0 n) u'∧u'.ownsRow base 97 4 (SL u.heap.size 0 n) 0 []∧Bw u u':=by
 obtain ⟨i0,hi,hz0,hz1,hz2⟩:=info_parts Tryz.infoEv;obtain ⟨u',h1,h2,h3⟩:=run_make_own (P:=Tryz.prog) u base 31 97 i0 _ 4 Tryz.underlying31 hi hz0 hz1 .i64 .i64 n (by rw [hz2];omega) (by unfold maxLen;omega) hb;exact ⟨u',h1,h2,Dq h3⟩
structure RunP (w wr:World) (B ge cap:Nat) (X:Nat->Prop) (PI:KM->World->Prop) (m:MP) (pa:Option Addr) (pc:Nat) (ps:List Int) (i:Nat) (O:Nat->Prop) (ov:Value) (ol:List (Nat × Int)) (h:HartM) (evs:List EvM):Prop where
 n:Bw w wr
 h4:wr.heap[w.heap.size]?=some (.cells kQ 35 (0,0))
 pk:wr.ownsRow w.heap.size 2 1 (.slice pa ps.length pc) ps.length (cL ps)
 pl:∀g,(Value.slice pa ps.length pc).ownBlock=some g->g<B
 mw:MW wr O X m ov h ol
 pi:PI h.k wr
 ok:HOk h
 ob:∀i,O i->B<=i
 ev:wr.ownsRow w.heap.size 97 4 (SL ge i cap) i (jd evs)
 eo:¬O ge
theorem RunP.low {w wr v:World} {B ge cap:Nat} {X:Nat->Prop} {PI:KM->World->Prop} {PA:Int->World->RunM->Prop} {plain:Bool} {base:Nat} {m:MP} {pa:Option Addr} {pc:Nat} {ps:List Int} {i:Nat} {O:Nat->Prop} {ov:Value} {ol:List (Nat × Int)} {h:HartM} {evs:List EvM} (k:RunP w wr B ge cap X PI m pa pc ps i O ov ol h evs) (hP:Path m plain base X PI PA) (hb:Bw wr v):RunP w v B ge cap X PI m pa pc ps i O ov ol h evs:=
 ⟨bst k.n hb,ae k.h4 hb (hpl k.h4),aq k.pk hb,k.pl,k.mw.low hb,(hP.ok 0 h ⟨by omega,by omega⟩).framei wr v k.pi hb.size (fun i hi=>hb.block i (k.mw.xo i hi).2),k.ok,k.ob,aq k.ev hb,k.eo⟩
theorem RunP.step {w wr v:World} {B ge cap:Nat} {X:Nat->Prop} {PI:KM->World->Prop} {PA:Int->World->RunM->Prop} {plain:Bool} {base:Nat} {m:MP} {pa:Option Addr} {pc:Nat} {ps:List Int} {i:Nat} {O O':Nat->Prop} {ov ov':Value} {ol ol':List (Nat × Int)} {h:HartM} {evs:List EvM} {y:Int} (k:RunP w wr B ge cap X PI m pa pc ps i O ov ol h evs) (hP:Path m plain base X PI PA) (hy:0<=y∧y<=255) (hB:w.heap.size<B)
 (kw:MW v O' X m ov' (bT plain y h).h ol') (kp:Kp O wr v) (hO:∀i,i<wr.heap.size->O' i->O i) (hA:PA y v (bT plain y h)) (hBw:B<=wr.heap.size):RunP w v B ge cap X PI m pa pc ps i O' ov' ol' (bT plain y h).h evs:=by
 refine ⟨kp.below k.n k.n.size (fun i hi=>by have:=k.ob i hi;omega),kp.heap k.h4 (fun hh=>by have:=k.ob _ hh;omega),kp.own k.pk (fun g e hh=>by have:=k.ob g hh;have:=k.pl g e;omega),k.pl,kw,hP.next y v _ hA,(oJ plain hy k.ok).h,fun j hj=>?_,kp.own k.ev (fun g e hh=>?_),fun hh=>k.eo (hO ge (cQ k.ev).2.2 hh)⟩
 ·by_cases hlt:j<wr.heap.size
  ·exact k.ob j (hO j hlt hj)
  ·omega
 ·simp only [Value.ownBlock,Option.some.injEq] at e;exact k.eo (e ▸ hh)
theorem RunP.next {w wr v:World} {B ge cap:Nat} {X:Nat->Prop} {PI:KM->World->Prop} {PA:Int->World->RunM->Prop} {plain:Bool} {base:Nat} {m:MP} {pa:Option Addr} {pc:Nat} {ps:List Int} {i:Nat} {O:Nat->Prop} {ov:Value} {ol:List (Nat × Int)} {h:HartM} {evs:List EvM} {e:EvM} (k:RunP w wr B ge cap X PI m pa pc ps i O ov ol h evs) (hP:Path m plain base X PI PA)
 (hg:wr.grownBy v (some ge)) (ho:v.ownsRow w.heap.size 97 4 (SL ge (i+1) cap) (i+1) (jd evs++evC e)):RunP w v B ge cap X PI m pa pc ps (i+1) O ov ol h (evs++[e]):=by
 have kp:Kp (fun j=>j=ge) wr v:=Kp.of_gb hg rfl;have lw:=(cQ k.ev).2.1;simp only at lw;have hx:∀j,X j->j≠ge:=fun j hj e=>k.eo (e ▸ (k.mw.xo j hj).1);refine ⟨kp.below k.n k.n.size (fun i hi=>by omega),kp.heap k.h4 (fun hh=>?_),kp.own k.pk (fun g e' hh=>?_),k.pl,?_,(hP.ok 0 h ⟨by omega,by omega⟩).framei wr v k.pi hg.size (fun j hj=>kp.block j (k.mw.xo j hj).2 (hx j hj)),k.ok,k.ob,?_,k.eo⟩
 ·exact absurd (show (SL ge i cap).ownBlock=some w.heap.size by rw [hh];rfl) (bY k.ev k.h4 (by decide))
 ·exact sk k.pk k.ev (by decide) g e' (by rw [hh];rfl)
 ·have mw:=k.mw;have h1:m.b≠ge:=fun e=>k.eo (e ▸ mw.ob);have h2:m.gm≠ge:=fun e=>k.eo (e ▸ mw.om);exact ⟨kp.heap mw.blk h1,kp.blk mw.mem h2,kp.own mw.old fun g e hh=>k.eo (hh ▸ (mw.oo g e).1),mw.ob,mw.om,mw.oo,mw.bm,mw.xb,mw.xm,fun j hj=>⟨(mw.xo j hj).1,ltl (mw.xo j hj).2 hg.size⟩,mw.byt,mw.len,mw.regs,mw.oll,mw.sh,fun j hj=>ltl (mw.obd j hj) hg.size,mw.oln⟩
 ·rw [sQ,show jd [e]=evC e from by simp [jd]];exact ho
def Ap (r:Nat) (ea:Option Addr) (n ec:Nat) (q:PtrM) (h:HartM):Array Value:=#[.slice ea n ec,.slice q.am h.mem.length q.cm,.slice q.ar r q.cr,VU h.pc,VI h.mode,.bool h.sum,.bool h.mxr,VU h.satp,VU h.epc,VI h.emode,VI h.cause,VU h.tval]
theorem Bu (r:Nat) (ea:Option Addr) (n ec:Nat) (q:PtrM) (h:HartM):(Ap r ea n ec q h).all (·.oneCell')=true:=by simp [Ap,Value.oneCell']
theorem xG (a:Option Addr) (len cap:Nat) (zs:List Int) (plain:Bool) (w:World) (hB:Byt w a len zs) (hl:len<=16777216):
 Calls Tryz.prog 11 #[.slice a len cap,.bool plain] w fun e w'=>(∃ge ec q,e=.returned (.agg (dw (some (AD ge 0)) (eI plain (bE zs) (aJ zs)).1.length ec q (eI plain (bE zs) (aJ zs)).2))∧RsW w.heap.size w' ge ec q (eI plain (bE zs) (aJ zs)).1 (eI plain (bE zs) (aJ zs)).2)∧Bw w w':=by
 have hok:=qY hB.2.1;have pl:=ql zs;have PB:=hid (oX hB.2.1);have CS:Hid (∀u,Bw w u->Calls Tryz.prog 17 #[.slice a len cap] u fun e v=>(∃p pa pc,e=.returned (.agg (cy p pa pc (aJ zs) (bE zs)))∧HartIn v p (aJ zs)∧v.ownsRow u.heap.size 2 1 (.slice pa (bE zs).length pc) (bE zs).length (cL (bE zs)))∧Bw u v):=fun u hu=>(lS a len cap zs u (hB.keep hu) hl).mono fun e v d=>by
  obtain ⟨⟨p,pa,pc,he,o⟩,n⟩:=d.own;exact ⟨⟨p,pa,pc,he,o.hart.hin hok.mem hok.ks,o.pick⟩,n⟩
 have hml:(aJ zs).mem.length<=1048576:=by
  have:=hok.v.size;simp only [ez,decide_eq_true_eq] at this;omega
 have CM:=hid fun (p:PtrM) (u:World) (hu:HartIn u p (aJ zs))=>pC plain p _ u hu hml hok.satp.1 hok.satp.2 hok.tvec.1 hok;clear hB hl hml;generalize aJ zs=h0 at *;generalize bE zs=ps at *;obtain ⟨⟨RE,RH⟩,hR⟩:∃R,eI plain ps h0=R:=⟨_,rfl⟩;have HR:Hid _:=hR;rw [hR];clear hR;have HOK:=hid hok;clear hok;go_enter Tryz.func11,Tryz.ntmps11;go_upto_region 1 with fail;have F:=bF w kQ 35;generalize w.alloc (Obj.cells kQ 35)=u0 at F |-;obtain ⟨f4,z4,n0⟩:=F;have H4:Hid _:=f4;clear f4;go_wp2_with fail;refine (CS.out u0 n0).mono ?_;rintro e v1 ⟨⟨p,pa,pc,rfl,hi,op⟩,n1⟩;have s1:=n1.size;have HI:Hid _:=hi;have OP:=hid (bS op n0.size);replace H4:=ah H4 n1;replace n0:=bst n0 n1;clear n1 hi op CS;obtain ⟨v2,hs2,P2,l2,n2⟩:=sq v1 (cy p pa pc h0 ps) rfl (jH _ _ _ _ _);have SH:Hid _:=sR p pa pc h0 ps;have SP:Hid _:=sS p pa pc h0 ps;have HS2:Hid _:=hs2;generalize cy p pa pc h0 ps=S at *;have H5:Hid _:=P2;replace H4:=ah H4 n2;replace n0:=bst n0 n2;replace HI:Hid _:=HI.out.keep n2;replace OP:=hid (aq OP.out n2);clear hs2 P2 n2;go_upto_region 2 with (first | ((with_reducible refine az ?_ ?_ HS2.out ?_);(exact rfl);(exact rfl)));clear HS2;have J5:Hid _:=eA (P:=Tryz.prog) (T:=44) H5.out Tryz.underlying44 rfl (o:=0) (ak p h0).toList fy SH.out rfl;rw [show (ak p h0).toList.toArray=ak p h0 from rfl] at J5;have CM2:Hid _:=CM.out p v2 HI.out;obtain ⟨A0,hA0⟩:∃A,ak p h0=A:=⟨_,rfl⟩;rw [hA0] at J5 CM2;clear hA0 CM;go_wp2_with (first | ((with_reducible refine bj ?_ J5.out ?_);(exact rfl)));clear J5;refine Calls.mono CM2.out ?_;rintro e v3 ⟨⟨m,O,X,PI,PA,base,rfl,kw,hP,hI,hO,hbs,hgi,hgd,hgp⟩,n3⟩;have HP:=hid hP;have K3:=hid kw;have HI3:=hid hI;have HO3:=hid hO;have LP:=hid fun g (hg:(Value.slice pa ps.length pc).ownBlock=some g)=>(OP.out.lt g hg).2;replace H4:=ah H4 n3;replace H5:=ah H5 n3;replace n0:=bst n0 n3;replace OP:=hid (aq OP.out n3);have s3:=n3.size;clear n3 kw hP hI hO CM2 HI;have c21:=ab H5.out 21 SP.out;obtain ⟨v4,hmk,oe,n4⟩:=Gc ps.length pl w.heap.size v3 (by have:=n0.size;omega);go_upto_region 4 with fail;have K0:Hid (RunP w v4 v2.heap.size v3.heap.size ps.length X PI m pa pc ps 0 O (SN) [] h0 []):=
  ⟨bst n0 n4,(ah H4 n4).out,aq OP.out n4,LP.out,K3.out.low n4,(HP.out.ok 0 h0 ⟨by omega,by omega⟩).framei v3 v4 HI3.out n4.size (fun i hi=>n4.block i (K3.out.xo i hi).2),HOK.out,HO3.out,oe,fun hh=>by have:=K3.out.obd _ hh;omega⟩
 have c21':=ab (ah H5 n4).out 21 SP.out;have b24:w.heap.size<v2.heap.size:=by omega
 have b23:v2.heap.size<=v4.heap.size:=by have:=n4.size;omega
 clear n4 oe hmk c21 H4 H5 OP LP K3 HI3 HO3 n0 HOK z4 s1 l2 s3;generalize v2.heap.size=BB at *;generalize v3.heap.size=ge at *;go_wp2;go_loopw [8,30] (fun ev ii wr=>∃(i:Nat) (O:Nat->Prop) (ov:Value) (ol:List (Nat × Int)) (h:HartM) (evs:List EvM),i<=ps.length∧evs.length=i∧ev=SL ge i ps.length∧ii=VI i∧RunP w wr BB ge ps.length X PI m pa pc ps i O ov ol h evs∧BB<=wr.heap.size∧(evs++(eI plain (ps.drop i) h).1,(eI plain (ps.drop i) h).2)=(RE,RH)) (fun _ ii _=>ps.length-(intOf ii).toNat)
 case atStart=>exact ⟨0,O,_,[],h0,[],Nat.zero_le _,rfl,rfl,rfl,K0.out,b23,by rw [List.drop_zero,List.nil_append];exact HR.out⟩
 case round=>
 rename World=>wr;obtain ⟨i,O,ov,ol,h,evs,hi,hev,rfl,rfl,k,hbw,hr⟩:=hrel;clear K0 HR c21' b23;have HK:Hid _:=k;have HRR:Hid _:=hr;have HEV:Hid _:=hev;clear k hr hev;by_cases hlt:i<ps.length
 ·have hlt':decide ((i:Int)<(ps.length:Int))=true:=by simp;omega
  obtain ⟨y,hy⟩:∃y,ps[i]=y:=⟨_,rfl⟩;have by':0<=y∧y<=255:=by rw [<-hy];exact PB.out _ (List.getElem_mem hlt)
  have HY:=hid hy;have pki:(cL ps)[i]?=some (VI y):=by
   rw [<-hy];simp [cL,geg hlt]
  obtain ⟨pg,hpg⟩:=lH HK.out.pk (by omega);subst hpg;have lpg:=(cQ HK.out.pk).2.2;have cpk:wr.cell? (AD pg i)=some (VI y):=by
   have:=aQ HK.out.pk i _ pki;simpa using this
  clear pki hy;go_upto_region 7 with fail;clear cpk lpg;have c8:=ab HK.out.mw.blk 8 (v:=VU h.pc) rfl;have c9:=ab HK.out.mw.blk 9 (v:=VI h.mode) rfl;have lmb:=HK.out.mw.lt;go_quiet (fail);have nQ:=ou wr nq;generalize wr.drewN nq=v5 at nQ |-;have K5:Hid _:=HK.out.low HP.out nQ;have s5:=nQ.size;obtain ⟨SM,hSM⟩:∃SM,bT plain y h=SM:=⟨_,rfl⟩;have HSM:Hid (bT plain y h=SM):=hSM;have CS:Hid (Calls Tryz.prog 19 #[PT m.b 0,VI y] v5 (pz plain y h O X m (PA y) v5)):=DZ (HP.out.ok y h by') by' v5 K5.out.mw K5.out.pi K5.out.ok;clear c8 c9 lmb nQ hSM;go_wp2_with fail;refine CS.out.mono ?_;rintro e v6 ⟨rfl,O',ov',ol',kw,kp,hO',hA⟩;have K6:Hid (RunP w v6 BB ge ps.length X PI m (some (AD pg 0)) pc ps i O' ov' ol' (bT plain y h).h evs):=RunP.step K5.out HP.out by' b24 kw kp hO' hA (by omega);have s6:=kp.size;rw [HSM.out] at K6 |-;clear kw kp hO' hA CS K5;have a9:=bF v6 #[VI 0,VU 0] 92;have HS9:Hid _:=aR (P:=Tryz.prog) (T:=92) (V:=#[VI SM.cause,VU SM.tval]) a9.1 GC rfl (by simp [Value.oneCell']);have e9:=aI (V:=#[VI SM.cause,VU SM.tval]) a9.1 rfl;have n9:=aK nle (#[VI SM.cause,VU SM.tval]:Array Value).toList 0 _ a9.2.2;go_upto_region 9 with (first | ((with_reducible refine az ?_ ?_ HS9.out ?_);(exact rfl);(exact rfl)));generalize (v6.alloc (Obj.cells #[VI 0,VU 0] 92)).setCells v6.heap.size 0 (#[VI SM.cause,VU SM.tval]:Array Value).toList=v7 at e9 n9 HS9 |-;have K7:Hid _:=K6.out.low HP.out n9;have s7:=n9.size;have c0:=ab e9 0 (v:=VI SM.cause) rfl;have c1:=ab e9 1 (v:=VU SM.tval) rfl;have l7:v6.heap.size<v7.heap.size:=(hpl e9);clear HS9 e9 n9 a9 K6;obtain ⟨en,hen⟩:∃e:EvM,e=⟨h.pc,h.mode,SM.cause,SM.tval⟩:=⟨_,rfl⟩;have hev:evC en=[VU h.pc,VI h.mode,VI SM.cause,VU SM.tval]:=by rw [hen];rfl
  have nA:=(Below.refl v7.heap.size v7).alloc nle (Obj.cells #[VU h.pc,VI h.mode,VI SM.cause,VU SM.tval] 97);have rA:RowC (v7.alloc (Obj.cells #[VU h.pc,VI h.mode,VI SM.cause,VU SM.tval] 97)) (some (AD v7.heap.size 0)) 1 4 (evC en):=by
   rw [hev];exact (OwnC.new 97 4 v7 [VU h.pc,VI h.mode,VI SM.cause,VU SM.tval] 1 rfl (by decide)).row
  have HEN:Hid _:=hen;have RAH:Hid _:=rA;have K8:Hid _:=K7.out.low HP.out nA;have s8:=nA.size;obtain ⟨i0,hi0,_,hz1,_⟩:=info_parts Tryz.infoEv;clear hen hev rA nA K7;go_wp2_with (at_builtin;refine wpList_append_own_spare _ rfl _ _ 31 rfl w.heap.size 97 i0 4 Tryz.underlying31 hi0 hz1 ge i ps.length (jd evs) rfl K8.out.ev (AD v7.heap.size 0) 1 1 (evC en) rfl rfl (uJ RAH.out) (Fw _) (by omega) ?_;intro v9 o9 g9;have NX:Hid _:=RunP.next K8.out HP.out g9 o9;have s9:=g9.size;clear o9 g9);go_roundw
  case rel=>
   refine ⟨i+1,O',ov',ol',SM.h,evs++[en],by omega,by simp [HEV.out],rfl,by go_num,NX.out,by omega,?_⟩;rw [<-HRR.out,DL plain ps i hlt h evs,HY.out,HSM.out,HEN.out]
  case measure=>simp [intOf];omega
 ·have hin:i=ps.length:=by omega
  subst hin;have hlt':decide ((ps.length:Int)<(ps.length:Int))=false:=by simp
  have hfin:evs=RE∧h=RH:=by
   have q:=HRR.out;rw [List.drop_length,eI] at q;simp only [List.append_nil] at q;exact ⟨congrArg Prod.fst q,congrArg Prod.snd q⟩
  obtain ⟨rfl,rfl⟩:=hfin;have HEL:Hid (evs.length=ps.length):=HEV.out;clear HRR HEV;have sl:=Es m.b;go_upto_region 11 with fail;have hbk:=HK.out.mw.blk;have C8:∀u:Has m.b (.cells (cJ h m.gm ov m.gi m.gd m.gp m.pv) 90 (0,0)),u.w.cell? (AD m.b 8)=some (VU h.pc):=fun u=>ab u.h 8 rfl;have C9:∀u:Has m.b (.cells (cJ h m.gm ov m.gi m.gd m.gp m.pv) 90 (0,0)),u.w.cell? (AD m.b 9)=some (VI h.mode):=fun u=>ab u.h 9 rfl;have C10:∀u:Has m.b (.cells (cJ h m.gm ov m.gi m.gd m.gp m.pv) 90 (0,0)),u.w.cell? (AD m.b 10)=some (.bool h.sum):=fun u=>ab u.h 10 rfl;have C11:∀u:Has m.b (.cells (cJ h m.gm ov m.gi m.gd m.gp m.pv) 90 (0,0)),u.w.cell? (AD m.b 11)=some (.bool h.mxr):=fun u=>ab u.h 11 rfl;have C12:∀u:Has m.b (.cells (cJ h m.gm ov m.gi m.gd m.gp m.pv) 90 (0,0)),u.w.cell? (AD m.b 12)=some (VU h.satp):=fun u=>ab u.h 12 rfl;have C14:∀u:Has m.b (.cells (cJ h m.gm ov m.gi m.gd m.gp m.pv) 90 (0,0)),u.w.cell? (AD m.b 14)=some (VU h.epc):=fun u=>ab u.h 14 rfl;have C15:∀u:Has m.b (.cells (cJ h m.gm ov m.gi m.gd m.gp m.pv) 90 (0,0)),u.w.cell? (AD m.b 15)=some (VI h.emode):=fun u=>ab u.h 15 rfl;have C16:∀u:Has m.b (.cells (cJ h m.gm ov m.gi m.gd m.gp m.pv) 90 (0,0)),u.w.cell? (AD m.b 16)=some (VI h.cause):=fun u=>ab u.h 16 rfl;have C17:∀u:Has m.b (.cells (cJ h m.gm ov m.gi m.gd m.gp m.pv) 90 (0,0)),u.w.cell? (AD m.b 17)=some (VU h.tval):=fun u=>ab u.h 17 rfl;have C18:∀u:Has m.b (.cells (cJ h m.gm ov m.gi m.gd m.gp m.pv) 90 (0,0)),u.w.cell? (AD m.b 18)=some (SL m.gm h.mem.length h.mem.length):=fun u=>ab u.h 18 rfl;have ne:Nonempty (Has m.b (.cells (cJ h m.gm ov m.gi m.gd m.gp m.pv) 90 (0,0))):=⟨⟨wr,hbk⟩⟩;have HBk:Hid _:=hbk;clear hbk;generalize cJ h m.gm ov m.gi m.gd m.gp m.pv=A at *;refine ax (fun w'=>∃u:Has m.b (.cells A 90 (0,0)),w'=u.w) 57 ?_;refine eO (fuel:=3) ⟨⟨wr.drew,HBk.out⟩,rfl⟩ [0,1,2,3,4,5,6,7,8,9,10,12,13,14,15,16,17,18,19,20,21,22,23,24,25,26,27,28,29,30,31,32,33,34,35,36,37,38,39,40,41,42,43,44,45,46,47,48,49,50,51,52,53,54,55,56] ?_;simp only [gh,List.getElem?_toArray,List.getElem?_cons_zero,List.getElem?_cons_succ];repeat (go_big_quiet_step (fail))
  refine wpQuiet_nil ?_;have D1:=bdr wr;refine ep 11 69 rfl ((EW m.b 8 h.regs wr.drew HK.out.mw.regs (Bm (HK.out.mw.low D1))).mono ?_);rintro e v2 ⟨rs,rfl,o2,n2'⟩;have n2:=bst D1 n2';have K2:Hid _:=HK.out.low HP.out n2;have HB2:Hid _:=ah HBk n2;have O2:Hid _:=o2;refine .inl ⟨_,rfl,fun _=>⟨⟨v2,HB2.out⟩,rfl⟩,?_⟩
  go_frame
  obtain ⟨gr,cr,rfl⟩:∃gr cr,rs=SL gr 8 cr:=by
   rcases O2.out.2 with ⟨_,h8⟩ | ⟨g,cap,cur,h1,_⟩
   ·cases h8
   ·exact ⟨_,_,h1⟩
  refine iR 57 115 (.agg (Ap 8 (some (AD ge 0)) ps.length ps.length ⟨some (AD m.gm 0),h.mem.length,some (AD gr 0),cr,none,0,none,0,none,0⟩ h)) (w':=v2) rfl (fun _=>⟨⟨v2,HB2.out⟩,rfl⟩) ?_
  go_frame
  obtain ⟨RV,hRV⟩:∃RV,Ap 8 (some (AD ge 0)) ps.length ps.length ⟨some (AD m.gm 0),h.mem.length,some (AD gr 0),cr,none,0,none,0,none,0⟩ h=RV:=⟨_,rfl⟩;have hs12:RV.size=12:=by rw [<-hRV];rfl
  have hone:RV.all (·.oneCell')=true:=by rw [<-hRV];exact Bu _ _ _ _ _ _
  rw [hRV];have h42:=K2.out.h4;refine dz 58 4 115 rfl (aR (P:=Tryz.prog) (T:=35) (V:=RV) h42 (by rw [hs12];exact Az) (by rw [hs12];rfl) hone) ?_;refine dc ?_;have e1:=aI (V:=RV) h42 (by rw [hs12];rfl);have e2:=aK (Nat.le_refl w.heap.size) RV.toList 0 _ K2.out.n;have gS:=aH w.heap.size RV.toList 0 v2 v2 (ao v2 _);have hrg:=K2.out.mw.regs;have hgm:=K2.out.ob _ K2.out.mw.om;have hml:=K2.out.mw.len;have hw1:=K2.out.n.size;have hws:=(hpl HK.out.h4);have ev':=cP K2.out.ev h42 (by decide) gS;have mm':=cP (CO (base:=w.heap.size) K2.out.mw.mem (by omega) (by omega)) h42 (by decide) gS;have rr':=cP (bS O2.out (show w.heap.size<=wr.drew.heap.size by have:wr.drew.heap.size=wr.heap.size:=rfl;omega)) h42 (by decide) gS;clear C8 C9 C10 C11 C12 C14 C15 C16 C17 C18 sl;go_wp2_with fail;refine dE (b:=w.heap.size) Tryz.results11 rfl (bC (P:=Tryz.prog) e1 Tryz.underlying35 rfl (by rw [hs12];exact Az)) rfl ?_;refine ⟨⟨ge,ps.length,⟨some (AD m.gm 0),h.mem.length,some (AD gr 0),cr,none,0,none,0,none,0⟩,?_,?_,mm',?_⟩,e2⟩
  ·rw [<-hRV,HEL.out,<-hrg];rfl
  ·rw [HEL.out];exact ev'
  ·show World.ownsRow _ _ _ _ (SL gr h.regs.length cr) _ _;rw [hrg];exact rr'
section
attribute [local go_sem ↓] Go.wp_at_zero Go.wp_at_succ
theorem xE (a b:Option Addr) (len ca cb:Nat) (zs:List Int) (w:World) (h:RowC w a len 1 (zs.map (Value.int .u64))) (h':RowC w b len 1 (zs.map (Value.int .u64))) (hl:len<=1048576):
 Calls Tryz.prog 25 #[.slice a len ca,.slice b len cb] w fun e w'=>e=.returned (.bool true)∧∃n,w'=w.drewN n:=by
 obtain ⟨h1,h3⟩:=h;obtain ⟨_,k3⟩:=h';have hz:zs.length=len:=by simpa using h1
 have HAt:Hid (∀k,k<len->(zs.map (Value.int .u64))[k]?=some (VU (zs[k]?.getD 0))):=fun k hk=>by
  have:k<zs.length:=by omega
  simp [this]
 clear h1;go_enter Tryz.func25,Tryz.ntmps25;go_wp2;go_loopw [5] (fun i wr=>∃(k:Nat),k<=len∧i=VI k∧∃n,wr=w.drewN n) (fun i _=>len-(intOf i).toNat)
 case atStart=>exact ⟨0,Nat.zero_le _,rfl,0,rfl⟩
 case round=>
  obtain ⟨k,hk,rfl,n,rfl⟩:=hrel;by_cases hlt:k<len
  ·rcases h3 with h3 | ⟨b1,o1,rfl,hb1,hc1⟩
   ·omega
   rcases k3 with k3 | ⟨b2,o2,rfl,hb2,hc2⟩
   ·omega
   have g1:=hc1 k _ (HAt.out k hlt);have g2:=hc2 k _ (HAt.out k hlt);generalize zs[k]?.getD 0=z at g1 g2;clear hc1 hc2;go_wp2;go_quiet (fail);go_wp2;go_roundw
   case rel=>exact ⟨k+1,by omega,by go_num,n+nq,rfl⟩
   case measure=>simp [intOf];omega
  ·go_wp2;go_ret;exact ⟨rfl,n,rfl⟩
theorem tF (a b:Option Addr) (n ca cb:Nat) (es:List EvM) (w:World) (h:RowC w a n 4 (jd es)) (h':RowC w b n 4 (jd es)) (hn:es.length=n) (hl:n<=1048576):
 Calls Tryz.prog 23 #[.slice a n ca,.slice b n cb] w fun e w'=>e=.returned (.bool true)∧Below w.heap.size w w':=by
 have HR:Hid (RowC w a n 4 (jd es)):=h;have HR':Hid (RowC w b n 4 (jd es)):=h';clear h h';go_enter Tryz.func23,Tryz.ntmps23;go_wp2;go_loopw [5] (fun i wr=>∃(k:Nat),k<=n∧i=VI k∧Below w.heap.size w wr) (fun i _=>n-(intOf i).toNat)
 case atStart=>exact ⟨0,Nat.zero_le _,rfl,brf⟩
 case round=>
  obtain ⟨k,hk,rfl,hb⟩:=hrel;by_cases hlt:k<n
  ·obtain ⟨x,hx⟩:∃x:EvM,es[k]?=some x:=⟨_,geg (by omega)⟩;have R1:=RowC.keep HR.out hb;have R2:=RowC.keep HR'.out hb;obtain ⟨b1,o1,rfl,lb1⟩:∃b1 o1,a=some (AD b1 o1)∧b1<wr.heap.size:=by
    rcases R1.2 with h | ⟨b1,o1,h,h2,_⟩
    ·omega
    ·exact ⟨b1,o1,h,h2⟩
   obtain ⟨b2,o2,rfl,lb2⟩:∃b2 o2,b=some (AD b2 o2)∧b2<wr.heap.size:=by
    rcases R2.2 with h | ⟨b2,o2,h,h2,_⟩
    ·omega
    ·exact ⟨b2,o2,h,h2⟩
   obtain ⟨vp,vm,vc,vt⟩:=x;have C1:=fun j u hj hu=>aM (AS R1 hn k _ hx j u hj hu) lb1;have C2:=fun j u hj hu=>aM (AS R2 hn k _ hx j u hj hu) lb2;have g0:∀u:Lies wr,u.w.cell? ⟨b1,o1+k*4,none⟩=some (VU vp):=C1 0 _ (by omega) rfl;have g1:∀u:Lies wr,u.w.cell? ⟨b1,o1+k*4+1,none⟩=some (VI vm):=C1 1 _ (by omega) rfl;have g2:∀u:Lies wr,u.w.cell? ⟨b1,o1+k*4+2,none⟩=some (VI vc):=C1 2 _ (by omega) rfl;have g3:∀u:Lies wr,u.w.cell? ⟨b1,o1+k*4+3,none⟩=some (VU vt):=C1 3 _ (by omega) rfl;have f0:∀u:Lies wr,u.w.cell? ⟨b2,o2+k*4,none⟩=some (VU vp):=C2 0 _ (by omega) rfl;have f1:∀u:Lies wr,u.w.cell? ⟨b2,o2+k*4+1,none⟩=some (VI vm):=C2 1 _ (by omega) rfl;have f2:∀u:Lies wr,u.w.cell? ⟨b2,o2+k*4+2,none⟩=some (VI vc):=C2 2 _ (by omega) rfl;have f3:∀u:Lies wr,u.w.cell? ⟨b2,o2+k*4+3,none⟩=some (VU vt):=C2 3 _ (by omega) rfl;have ne:=eF wr;clear C1 C2 R1 R2 hx;go_wp2_with fail;refine cN (by kernel_rfl) (by kernel_rfl) ?_;repeat (go_big_quiet_step (fail))
   refine wpQuiet_nil ?_;rintro _ ⟨u,rfl⟩;have hb2:=Below.step hb u.h (Nat.le_refl _);generalize u.w=v2 at hb2 |-;clear g0 g1 g2 g3 f0 f1 f2 f3 hb;go_wp2;go_roundw
   case rel=>exact ⟨k+1,by omega,by go_num,hb2⟩
   case measure=>simp [intOf];omega
  ·have hkl:k=n:=by omega
   subst hkl;go_wp2;go_ret;exact ⟨rfl,hb⟩
theorem sj {w:World} {a:Option Addr} {len:Nat} {zs:List Int} (h:Byt w a len zs) (h0:0<len) (c:Nat):(convert 22 9 (.slice a len c)).run Tryz.prog w=.ok (.string (strOfNums zs)) w:=by
 rcases h.2.2 with h1 | ⟨b,off,rfl,_,hc⟩
 ·omega
 ·exact run_convert_bytes_arg (P:=Tryz.prog) w 22 5 Tryz.underlying22 Tryz.underlying5 b off len c zs h.1 (fun i hi=>by rw [hc i hi,List.getD_eq_getElem?_getD]) 9 Tryz.underlying9
theorem vf (a b:Option Addr) (len ca cb:Nat) (zs:List Int) (w:World) (h:Byt w a len zs) (h':Byt w b len zs) (h0:0<len):
 Calls Tryz.prog 24 #[.slice a len ca,.slice b len cb] w fun e w'=>e=.returned (.bool true)∧w'=w:=by
 have c1:=sj h h0 ca;have c2:=sj h' h0 cb;clear h h';generalize strOfNums zs=s at c1 c2;go_enter Tryz.func24,Tryz.ntmps24;go_wp2;go_ret;simp
theorem tG (ea eb:Option Addr) (ec ed:Nat) (p q:PtrM) (evs:List EvM) (h:HartM) (w:World) (hp:RsR w ea p evs h) (hq:RsR w eb q evs h) (hb:RsB evs h) (h0:0<h.mem.length):
 Calls Tryz.prog 12 #[.agg (dw ea evs.length ec p h),.agg (dw eb evs.length ed q h)] w fun e w'=>e=.returned (.bool true)∧Below w.heap.size w w':=by
 have E0:Hid (∀u,Below w.heap.size w u->Calls Tryz.prog 23 #[.slice ea evs.length ec,.slice eb evs.length ed] u fun e w'=>e=.returned (.bool true)∧Below u.heap.size u w'):=fun u hu=>tF _ _ _ _ _ evs u (hp.ev.keep hu) (hq.ev.keep hu) rfl hb.e;have E1:Hid (∀u,Below w.heap.size w u->Calls Tryz.prog 24 #[.slice p.am h.mem.length p.cm,.slice q.am h.mem.length q.cm] u fun e w'=>e=.returned (.bool true)∧w'=u):=fun u hu=>vf _ _ _ _ _ h.mem u (hp.mem.keep hu) (hq.mem.keep hu) h0;have E2:Hid (∀u,Below w.heap.size w u->Calls Tryz.prog 25 #[.slice p.ar h.regs.length p.cr,.slice q.ar h.regs.length q.cr] u fun e w'=>e=.returned (.bool true)∧Below u.heap.size u w'):=fun u hu=>(xE _ _ _ _ _ h.regs u (hp.regs.keep hu) (hq.regs.keep hu) hb.r).mono (by
  rintro e w' ⟨rfl,n,rfl⟩;exact ⟨rfl,ou _ _⟩)
 clear hp hq hb;have F:=jW w (dw ea evs.length ec p h) (dw eb evs.length ed q h) 35 35;have A0:Hid ((dw ea evs.length ec p h)[0]?=some (.slice ea evs.length ec)):=by show _=_;rfl
 have B0:Hid ((dw eb evs.length ed q h)[0]?=some (.slice eb evs.length ed)):=by show _=_;rfl
 have A1:Hid ((dw ea evs.length ec p h)[1]?=some (.slice p.am h.mem.length p.cm)):=by show _=_;rfl
 have B1:Hid ((dw eb evs.length ed q h)[1]?=some (.slice q.am h.mem.length q.cm)):=by show _=_;rfl
 have A2:Hid ((dw ea evs.length ec p h)[2]?=some (.slice p.ar h.regs.length p.cr)):=by show _=_;rfl
 have B2:Hid ((dw eb evs.length ed q h)[2]?=some (.slice q.ar h.regs.length q.cr)):=by show _=_;rfl
 have A3:Hid ((dw ea evs.length ec p h)[3]?=some (VU h.pc)):=by show _=_;rfl
 have B3:Hid ((dw eb evs.length ed q h)[3]?=some (VU h.pc)):=by show _=_;rfl
 have A4:Hid ((dw ea evs.length ec p h)[4]?=some (VI h.mode)):=by show _=_;rfl
 have B4:Hid ((dw eb evs.length ed q h)[4]?=some (VI h.mode)):=by show _=_;rfl
 have A5:Hid ((dw ea evs.length ec p h)[5]?=some (.bool h.sum)):=by show _=_;rfl
 have B5:Hid ((dw eb evs.length ed q h)[5]?=some (.bool h.sum)):=by show _=_;rfl
 have A6:Hid ((dw ea evs.length ec p h)[6]?=some (.bool h.mxr)):=by show _=_;rfl
 have B6:Hid ((dw eb evs.length ed q h)[6]?=some (.bool h.mxr)):=by show _=_;rfl
 have A7:Hid ((dw ea evs.length ec p h)[7]?=some (VU h.satp)):=by show _=_;rfl
 have B7:Hid ((dw eb evs.length ed q h)[7]?=some (VU h.satp)):=by show _=_;rfl
 have A8:Hid ((dw ea evs.length ec p h)[8]?=some (VU h.epc)):=by show _=_;rfl
 have B8:Hid ((dw eb evs.length ed q h)[8]?=some (VU h.epc)):=by show _=_;rfl
 have A9:Hid ((dw ea evs.length ec p h)[9]?=some (VI h.emode)):=by show _=_;rfl
 have B9:Hid ((dw eb evs.length ed q h)[9]?=some (VI h.emode)):=by show _=_;rfl
 have A10:Hid ((dw ea evs.length ec p h)[10]?=some (VI h.cause)):=by show _=_;rfl
 have B10:Hid ((dw eb evs.length ed q h)[10]?=some (VI h.cause)):=by show _=_;rfl
 have A11:Hid ((dw ea evs.length ec p h)[11]?=some (VU h.tval)):=by show _=_;rfl
 have B11:Hid ((dw eb evs.length ed q h)[11]?=some (VU h.tval)):=by show _=_;rfl
 generalize dw ea evs.length ec p h=A at *;generalize dw eb evs.length ed q h=B at *;go_enter Tryz.func12,Tryz.ntmps12;go_upto_region 1 with fail;generalize (w.alloc (Obj.cells A 35)).alloc (Obj.cells B 35)=u0 at F |-;obtain ⟨f1,f2,hz,n0⟩:=F;have H1:Hid _:=f1;have H2:Hid _:=f2;clear f1 f2;have c0:=ab H1.out 0 A0.out;have d0:=ab H2.out 0 B0.out;go_wp2_with fail;refine (E0.out u0 n0).mono ?_;rintro e u1 ⟨rfl,m0⟩;have n1:=Below.step n0 m0 (Nat.le_refl _);replace H1:=ah H1 m0;replace H2:=ah H2 m0;clear c0 d0;have c1:=ab H1.out 1 A1.out;have d1:=ab H2.out 1 B1.out;have c2:=ab H1.out 2 A2.out;have d2:=ab H2.out 2 B2.out;go_wp2_with fail;refine (E1.out u1 n1).mono ?_;rintro e _ ⟨rfl,rfl⟩;go_wp2_with fail;refine (E2.out _ n1).mono ?_;rintro e u3 ⟨rfl,m2⟩;have n3:=Below.step n1 m2 (Nat.le_refl _);replace H1:=ah H1 m2;replace H2:=ah H2 m2;clear c1 d1 c2 d2;have c3:=ab H1.out 3 A3.out;have d3:=ab H2.out 3 B3.out;have c4:=ab H1.out 4 A4.out;have d4:=ab H2.out 4 B4.out;have c5:=ab H1.out 5 A5.out;have d5:=ab H2.out 5 B5.out;have c6:=ab H1.out 6 A6.out;have d6:=ab H2.out 6 B6.out;have c7:=ab H1.out 7 A7.out;have d7:=ab H2.out 7 B7.out;have c8:=ab H1.out 8 A8.out;have d8:=ab H2.out 8 B8.out;have c9:=ab H1.out 9 A9.out;have d9:=ab H2.out 9 B9.out;have c10:=ab H1.out 10 A10.out;have d10:=ab H2.out 10 B10.out;have c11:=ab H1.out 11 A11.out;have d11:=ab H2.out 11 B11.out;go_wp2;go_ret;exact ⟨rfl,n3⟩
theorem xF {v:World} {g:Nat} {V:Array Value} (hs:V.size=12) (h:v.heap[g]?=some (.cells V 35 (0,0))):(Instr.loadAt 35 (PT g 0)).run Tryz.prog v=.ok (.agg V) v:=
 aW h Tryz.underlying35 rfl (by rw [hs];exact Az)
theorem ldu {v:World} {b i:Nat} {s:Int} (h:v.cell? (AD b i)=some (VU s)):(Instr.loadAt 33 (PT b i)).run Tryz.prog v=.ok (VU s) v:=by go_simp
theorem ldi {v:World} {b i:Nat} {s:Int} (h:v.cell? (AD b i)=some (VI s)):(Instr.loadAt 2 (PT b i)).run Tryz.prog v=.ok (VI s) v:=by go_simp
theorem ldb {v:World} {b i:Nat} {s:Bool} (h:v.cell? (AD b i)=some (.bool s)):(Instr.loadAt 4 (PT b i)).run Tryz.prog v=.ok (.bool s) v:=by go_simp
end
section
attribute [local go_sem ↓] Go.wp_at_zero Go.wp_at_succ
theorem gJ {xs ys:List Int} (h:∀z∈xs,0<=z∧z<=255) (k:∀z∈ys,0<=z∧z<=255):∀z∈xs++ys,0<=z∧z<=255:=fun z hz=>(List.mem_append.1 hz).elim (h z) (k z)
theorem EU (n:Nat):∀z∈qT n,0<=z∧z<=255:=fun z hz=>by
 obtain ⟨x,_,hx⟩:=List.mem_flatMap.1 hz;exact eB 8 x z hx
theorem uR {a b how:Int} {ps:List Int} (ha:0<=a∧a<=255) (hb:0<=b∧b<=255) (hh:how=0∨how=1∨how=2∨how=3∨how=4) (hp:∀z∈ps,0<=z∧z<=255):∀z∈gI a b how ps,0<=z∧z<=255:=by
 have hc:∀z∈fF how,0<=z∧z<=255:=by rcases hh with rfl | rfl | rfl | rfl | rfl <;> decide
 have hl:(fF how).length<=255:=by rcases hh with rfl | rfl | rfl | rfl | rfl <;> decide
 have h1:∀z∈[4,4,4,15,1,if how=0 then 3 else 4,(0:Int)],0<=z∧z<=255:=by split <;> decide
 have r:∀ad x:Int,0<=ad∧ad<=65535->∀z∈dW ad (bM x 8),0<=z∧z<=255:=fun ad x h=>fh h (by rw [fR];decide) (eB 8 x);have o:∀ad x:Int,0<=ad∧ad<=65535->0<=x∧x<=255->∀z∈dW ad [x],0<=z∧z<=255:=fun ad x h k=>fh h (show 1<=255 by decide) (by simpa using k);exact gJ (gJ (gJ (gJ (gJ (gJ (gJ (gJ (gJ (gJ (gJ h1 (EU 10)) (by decide)) (r 64 3073 (by decide))) (r 72 199 (by decide))) (r 192 5121 (by decide))) (r 320 8267 (by decide))) (r 336 10439 (by decide))) (o 640 a (by decide) ha)) (o 704 b (by decide) hb)) (fh (by decide) hl hc)) hp
def ByI (ps:List Int) (x:Value) (u:World):Prop:=∃g o n c,x=.slice (some (AD g o)) n c∧n<=1000∧Byt u (some (AD g o)) n ps
theorem ByI.keep {ps:List Int} {x:Value} {u v:World} (h:ByI ps x u) (hb:Bw u v):ByI ps x v:=by
 obtain ⟨g,o,n,c,h1,h2,h3⟩:=h;exact ⟨g,o,n,c,h1,h2,h3.keep hb⟩
def RunI (evs:List EvM) (h:HartM) (x:Value) (u:World):Prop:=∃base ge ec q,x=.agg (dw (some (AD ge 0)) evs.length ec q h)∧RsW base u ge ec q evs h
theorem RunI.keep {evs:List EvM} {h:HartM} {x:Value} {u v:World} (k:RunI evs h x u) (hb:Bw u v):RunI evs h x v:=by
 obtain ⟨base,ge,ec,q,h1,h2⟩:=k;exact ⟨base,ge,ec,q,h1,h2.keep hb⟩
def RunB (evs:List EvM) (h:HartM) (p:Nat) (u:World):Prop:=∃ge ec q,u.heap[p]?=some (.cells (dw (some (AD ge 0)) evs.length ec q h) 35 (0,0))∧RsR u (some (AD ge 0)) q evs h
theorem RunB.keep {evs:List EvM} {h:HartM} {p:Nat} {u v:World} (k:RunB evs h p u) (hb:Bw u v):RunB evs h p v:=by
 obtain ⟨ge,ec,q,h1,h2⟩:=k;exact ⟨ge,ec,q,ae h1 hb (hpl h1),h2.keep hb⟩
theorem RsO.set {base pb:Nat} {w w':World} {ge ec:Nat} {q:PtrM} {evs:List EvM} {h:HartM} {ce cm cr:List Value} {T:TypeId} {cur:Array Value} {z:Nat × Nat} (k:RsO base w ge ec q evs h ce cm cr) (hp:w.heap[pb]?=some (.cells cur T z)) (t1:T≠97) (t2:T≠5) (t3:T≠33) (hg:w.grownBy w' (some pb)):RsO base w' ge ec q evs h ce cm cr:=
 ⟨k.ev.kept hg (.inr (bY k.ev hp t1)),k.mem.kept hg (.inr (bY k.mem hp t2)),k.regs.kept hg (.inr (bY k.regs hp t3))⟩
theorem my {evs:List EvM} {h:HartM} {z:Value} {p:Nat} {v:World} (hz:v.heap[p]?=some (.cells kQ 35 (0,0))) (k:RunI evs h z v) (hm:∀i:Nat,0<=h.mem[i]?.getD 0∧h.mem[i]?.getD 0<=255):
 ∃v',(Instr.storeAt 35 (PT p 0) z).run Tryz.prog v=.ok () v'∧RunB evs h p v'∧∀u:World,u.heap.size<=p->Bw u v->Bw u v':=by
 obtain ⟨base,ge,ec,q,rfl,ho⟩:=k;refine ⟨_,aR (P:=Tryz.prog) (T:=35) hz Az rfl (DK _ _ _ _ _),⟨ge,ec,q,aI hz rfl,?_⟩,fun u hp hb=>aK hp _ _ _ hb⟩;exact RsO.read (ho.set hz (by decide) (by decide) (by decide) (aH p _ 0 v _ (ao _ _))) hm
theorem Hd:(Tryz.prog.info? 24).map (·.size)=some 2:=by kernel_rfl
theorem tY {x:Bool} {y:Int} {p:Nat} {v:World} (hz:v.heap[p]?=some (.cells #[.bool false,VI 0] 24 (0,0))):
 ∃v',(Instr.storeAt 24 (PT p 0) (.agg #[.bool x,VI y])).run Tryz.prog v=.ok () v'∧Hid (v'.heap[p]?=some (.cells #[.bool x,VI y] 24 (0,0)))∧∀u:World,u.heap.size<=p->Bw u v->Bw u v':=
 ⟨_,aR (P:=Tryz.prog) (T:=24) hz Hd rfl (by simp [Value.oneCell']),aI hz rfl,fun u hp hb=>aK hp _ _ _ hb⟩
theorem De {zs:List Int} {x:Value} {u:World} (hx:ByI zs x u):Calls Tryz.prog 7 #[x] u fun e v=>(∃y,e=.returned y∧y=.agg #[.bool (hU (bE zs) (aJ zs) [] 0).1,VI ((hU (bE zs) (aJ zs) [] 0).2:Int)])∧Bw u v:=by
 obtain ⟨g,o,n,c,rfl,hn,hy⟩:=hx;exact (qA (some (AD g o)) n c zs u hy (by omega)).mono fun e v ⟨h1,h2⟩=>⟨⟨_,h1,rfl⟩,h2⟩
theorem uS {zs:List Int} {plain:Bool} {x:Value} {u:World} (hx:ByI zs x u):Calls Tryz.prog 11 #[x,.bool plain] u fun e v=>(∃y,e=.returned y∧RunI (eI plain (bE zs) (aJ zs)).1 (eI plain (bE zs) (aJ zs)).2 y v)∧Bw u v:=by
 obtain ⟨g,o,n,c,rfl,hn,hy⟩:=hx;exact (xG (some (AD g o)) n c zs plain u hy (by omega)).mono fun e v ⟨⟨ge,ec,q,h1,h2⟩,h3⟩=>⟨⟨_,h1,_,ge,ec,q,rfl,h2⟩,h3⟩
theorem zk {zs:List Int} (plain:Bool) (hz:∀i:Nat,0<=zs[i]?.getD 0∧zs[i]?.getD 0<=255):HOk (eI plain (bE zs) (aJ zs)).2∧(eI plain (bE zs) (aJ zs)).1.length<=20000:=by
 obtain ⟨_,el,rk⟩:=Cv plain (bE zs) (aJ zs) (qY hz) (oX hz);exact ⟨rk,by rw [el];have:=ql zs;omega⟩
theorem uT {a b how:Int} {ps:List Int} (ha:0<=a∧a<=255) (hb:0<=b∧b<=255) (hh:how=0∨how=1∨how=2∨how=3∨how=4) (hp:∀z∈ps,0<=z∧z<=255) (hl:ps.length<=255) {x:Value} {u:World} (hx:ByI ps x u):
 Calls Tryz.prog 10 #[.int .u8 a,.int .u8 b,VI how,x] u fun e v=>(∃y,e=.returned y∧ByI (gI a b how ps) y v)∧Bw u v:=by
 obtain ⟨g,o,n,c,rfl,hn,hy⟩:=hx;exact (tA a b how g o n c ps u ha hb hh hy (by have:=hy.1;omega)).mono fun e v ⟨g1,c1,n1,h1,h2,h3,h4⟩=>⟨⟨_,h1,g1,0,n1,c1,rfl,h2,h3.byt (bU (uR ha hb hh hp))⟩,h4⟩
theorem ld8 {v:World} {b i:Nat} {s:Int} (h:v.cell? (AD b i)=some (.int .u8 s)):(Instr.loadAt 5 (PT b i)).run Tryz.prog v=.ok (.int .u8 s) v:=by go_simp
theorem Df (u:World) (A:Array Value) (zs:List Int) (n:Nat) (hA:A=(zs.map (Value.int .u8)).toArray) (hn:zs.length=n) (hz:∀z∈zs,0<=z∧z<=255) (hm:n<=1000):ByI zs (SL u.heap.size n n) (u.alloc (.cells A 5))∧Bw u (u.alloc (.cells A 5)):=by
 obtain ⟨v,E,n0,_,y⟩:=go u A zs n hA hn hz hm;rw [E.out];exact ⟨⟨_,0,n,n,rfl,hm,y.out⟩,n0⟩
end
end Go.Proofs.YthdgiakgepmabaaGreat
