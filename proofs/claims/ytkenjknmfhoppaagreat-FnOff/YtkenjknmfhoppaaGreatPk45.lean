import Derived.Test.YtkenjknmfhoppaaGreatPk42
import Derived.Deep.DeepAppendRoom
namespace Go.Proofs.YtkenjknmfhoppaaGreat
open Go.RowKit
set_option linter.unusedVariables false
set_option maxHeartbeats 6400000
set_option maxRecDepth 20000
section
attribute [local go_sem ↓] Go.wp_at_zero Go.wp_at_succ
theorem Cm:∀(es:List EvM) (i j:Nat) (hi:i<es.length),j<4->(iY es)[i*4+j]?=(evC es[i])[j]?
 | e::r,0,j,hi,hj=>by
  simp only [iY,List.getElem_cons_zero,Nat.zero_mul,Nat.zero_add];rw [List.getElem?_append_left (by simp [evC];exact hj)]
 | e::r,i+1,j,hi,hj=>by
  simp only [iY,List.getElem_cons_succ];rw [List.getElem?_append_right (by simp [evC];omega)];have:(i+1)*4+j-(evC e).length=i*4+j:=by simp [evC];omega
  rw [this];exact Cm r i j (by simpa using hi) hj
theorem Cn {w:World} {b off n:Nat} {es:List EvM} (h:RowC w (some (AD b off)) n 4 (iY es)) (hn:es.length=n) (k:Nat) (x:EvM) (hx:es[k]?=some x) (j:Nat) (v:Value) (hj:j<4) (hv:(evC x)[j]?=some v):
 w.cell? ⟨b,off+(k*4+j),none⟩=some v:=by
 have hk:=(List.getElem?_eq_some_iff.1 hx).1;rcases h.2 with h0 | ⟨b',off',e,_,hc⟩
 ·omega
 ·simp at e;obtain ⟨rfl,rfl⟩:=e;refine hc _ _ ?_;rw [Cm es k j hk hj];rw [geg hk] at hx;simp at hx;rw [hx];exact hv
end
section
attribute [local go_sem ↓] Go.wp_at_zero Go.wp_at_succ
structure RsR (w:World) (ea:Option Addr) (q:PtrM) (evs:List EvM) (h:HartM):Prop where
 ev:RowC w ea evs.length 4 (iY evs)
 mem:Byt w q.am h.mem.length h.mem
 regs:RowC w q.ar h.regs.length 1 (dm h.regs)
theorem RsR.keep {w w':World} {ea:Option Addr} {q:PtrM} {evs:List EvM} {h:HartM} (k:RsR w ea q evs h) (hb:Bw w w'):RsR w' ea q evs h:=⟨k.ev.keep hb,k.mem.keep hb,k.regs.keep hb⟩
structure RsB (evs:List EvM) (h:HartM):Prop where
 e:evs.length<=1048576
 m:h.mem.length<=1048576
 r:h.regs.length<=1048576
structure RsO (base:Nat) (w:World) (ge ec:Nat) (q:PtrM) (evs:List EvM) (h:HartM) (ce cm cr:List Value):Prop where
 ev:w.ownsRow base 102 4 (SL ge evs.length ec) evs.length ce
 mem:w.ownsRow base 5 1 (.slice q.am h.mem.length q.cm) h.mem.length cm
 regs:w.ownsRow base 29 1 (.slice q.ar h.regs.length q.cr) h.regs.length cr
abbrev RsW (base:Nat) (w:World) (ge ec:Nat) (q:PtrM) (evs:List EvM) (h:HartM):Prop:=RsO base w ge ec q evs h (iY evs) (eC h.mem) (dm h.regs)
def If (ge ec:Nat) (q:PtrM) (evs:List EvM) (h:HartM) (g:Nat):Prop:=(SL ge evs.length ec).ownBlock=some g∨(Value.slice q.am h.mem.length q.cm).ownBlock=some g∨(Value.slice q.ar h.regs.length q.cr).ownBlock=some g
theorem RsO.keep {base:Nat} {w w':World} {ge ec:Nat} {q:PtrM} {evs:List EvM} {h:HartM} {ce cm cr:List Value} (k:RsO base w ge ec q evs h ce cm cr) (hb:Bw w w'):RsO base w' ge ec q evs h ce cm cr:=⟨aq k.ev hb,aq k.mem hb,aq k.regs hb⟩
theorem RsO.gb {base r:Nat} {w w':World} {ge ec:Nat} {q:PtrM} {evs:List EvM} {h:HartM} {ce cm cr:List Value} (k:RsO base w ge ec q evs h ce cm cr) (hg:w.grownBy w' (some r)) (hr:r<base):RsO base w' ge ec q evs h ce cm cr:=⟨aD k.ev hg hr,aD k.mem hg hr,aD k.regs hg hr⟩
theorem RsO.low {base:Nat} {w:World} {ge ec:Nat} {q:PtrM} {evs:List EvM} {h:HartM} {ce cm cr:List Value} (k:RsO base w ge ec q evs h ce cm cr):∀g,If ge ec q evs h g->base<=g∧g<w.heap.size:=by
 rintro g (h1 | h1 | h1)
 ·exact k.ev.lt g h1
 ·exact k.mem.lt g h1
 ·exact k.regs.lt g h1
theorem RsO.read {base:Nat} {w:World} {ge ec:Nat} {q:PtrM} {evs:List EvM} {h:HartM} (k:RsW base w ge ec q evs h) (hz:∀i:Nat,0<=h.mem[i]?.getD 0∧h.mem[i]?.getD 0<=255):RsR w (some (AD ge 0)) q evs h:=by
 refine ⟨eI k.ev,?_,eI k.regs⟩;rcases qD k.mem with ⟨h1,h2,_⟩ | ⟨g,cap,h1⟩
 ·exact ⟨rfl,hz,.inl h2⟩
 ·have hm:=k.mem;rw [h1] at hm;have hx:q.am=some (AD g 0):=by
   simp only [Value.slice.injEq] at h1;exact h1.1
  rw [hx];refine ⟨rfl,hz,.inr ⟨g,0,rfl,(db hm).2.2,fun i hi=>?_⟩⟩;have:=aM hm i (.int .u8 (h.mem[i]?.getD 0)) (by simp [eC,hi]);simpa using this
theorem RsO.box_ne {base pb:Nat} {w:World} {ge ec:Nat} {q:PtrM} {evs:List EvM} {h:HartM} {ce cm cr:List Value} {T:TypeId} {cur:Array Value} {z:Nat × Nat} (k:RsO base w ge ec q evs h ce cm cr) (hp:w.heap[pb]?=some (.cells cur T z)) (t1:T≠102) (t2:T≠5) (t3:T≠29):¬If ge ec q evs h pb:=by
 rintro (h1 | h1 | h1)
 ·exact cC k.ev hp t1 h1
 ·exact cC k.mem hp t2 h1
 ·exact cC k.regs hp t3 h1
end
theorem EF (b c:Nat) (w:World):(binOp .eql 28 (SL b 8 c) (SN)).run Tryz.prog w=.ok (.bool false) w:=by kernel_rfl
theorem GE (b c:Nat) (zs:List Int) (w:World) (h8:zs.length=8) (hr:RowC w (some (AD b 0)) 8 1 (dm zs)):
 Calls Tryz.prog 31 #[SL b 8 c] w fun e w'=>∃v,e=.returned v∧w'.ownsRow w.heap.size 29 1 v 8 (dm zs)∧Bw w w':=by
 have HR:=hid hr;have qe:=EF b c;clear hr;go_enter Tryz.func31,Tryz.ntmps31;have F:=bX w #[] 29;have HO:Hid ((w.alloc (Obj.cells #[] 29)).ownsRow w.heap.size 29 1 (SL w.heap.size 0 0) 0 []):=⟨rfl,.inr ⟨w.heap.size,0,#[],rfl,nle,F.1,by simp,by simp⟩⟩;have HR1:=hid (HR.out.keep F.2.2);have n1:=F.2.2;clear F;go_wp2_with (at_builtin;refine mM _ rfl (.tmp 5) (.tmp 6) 28 rfl 29 (by kernel_rfl) (VU 0) 1 8 (by kernel_rfl) rfl (by decide) w.heap.size 0 _ [] rfl HO.out b 0 8 c (dm zs) rfl (by omega) HR1.out (by intro u hu;simp only [dm,List.mem_map] at hu;obtain ⟨z,_,rfl⟩:=hu;rfl) (by omega) (by omega) (by have:=n1.size;omega) w.heap.size w n1 nle ?_;intro g5 cp5 v5 o5 n5;have HO5:Hid (v5.ownsRow w.heap.size 29 1 (SL g5 (0+8) cp5) (0+8) ([]++dm zs)):=o5;have HN5:Hid (Bw w v5):=n5;clear o5 n5);go_ret;exact ⟨_,rfl,HO5.out,HN5.out⟩
theorem C4 {w:World} {O X:Nat->Prop} {m:MP} {ov:Value} {h:HartM} {ol:List (Nat × Int)} (k:MW w O X m ov h ol):RowC w (some (AD m.b 0)) 8 1 (dm h.regs):=by
 have hl:=k.regs;refine ⟨by simp [dm,hl],.inr ⟨m.b,0,rfl,k.lt,fun i v hv=>?_⟩⟩;have hi:i<8:=by
  have:=(List.getElem?_eq_some_iff.1 hv).1;simpa [dm,hl] using this
 have hv':v=VU (h.regs[i]?.getD 0):=by
  unfold dm at hv;rw [List.getElem?_map,geg (by omega)] at hv;simp only [Option.map_some,Option.some.injEq] at hv;rw [<-hv,geg (by omega)];rfl
 rw [hv',Nat.zero_add];obtain rfl | rfl | rfl | rfl | rfl | rfl | rfl | rfl:i=0∨i=1∨i=2∨i=3∨i=4∨i=5∨i=6∨i=7:=by omega
 all_goals exact ab k.blk _ rfl
theorem Gc (b:Nat) (w:World):(Instr.sliceAt 79 (PT b 0) none none none).run Tryz.prog w=.ok (SL b 8 8) w:=by kernel_rfl
section
attribute [local go_sem ↓] Go.wp_at_zero Go.wp_at_succ
def Kb (b:Bool) (c t:Int) (p:PtrM) (h:HartM):Array Value:=#[.bool b,VI c,VU t,.slice p.am h.mem.length p.cm,.slice p.ar h.regs.length p.cr,VU h.pc,VI h.mode,.bool h.sum,.bool h.mxr,VU h.satp,VU h.tvec,VU h.epc,VI h.emode,VI h.cause,VU h.tval,VI h.k.i.sets,VI h.k.i.ways,.slice p.a1 h.k.i.es.length p.c1,VI h.k.d.sets,VI h.k.d.ways,.slice p.a2 h.k.d.es.length p.c2,VI h.k.p.sets,VI h.k.p.ways,.slice p.a3 h.k.p.es.length p.c3]
abbrev Kr:Array Value:=#[.bool false,VI 0,VU 0,SN,SN,VU 0,VI 0,.bool false,.bool false,VU 0,VU 0,VU 0,VI 0,VI 0,VU 0,VI 0,VI 0,SN,VI 0,VI 0,SN,VI 0,VI 0,SN]
theorem Kq (b:Bool) (c t:Int) (p:PtrM) (h:HartM):(Kb b c t p h).all (·.oneCell')=true:=by simp [Kb,Value.oneCell']
theorem Kk (p:PtrM) (al:Option Addr) (cl:Nat) (plain:Bool) (pick:Int) (r:RunM):((aF p al cl plain pick r).toList.drop 0).take 21=(aj p r.h).toList:=rfl
theorem Kt:(Tryz.prog.info? 50).map (·.size)=some 24:=by kernel_rfl
theorem Kc {plain:Bool} (hO:PlO plain) (p:PtrM) (h:HartM) (pick:Int) (w:World) (hi:HartIn w p h) (hk:HOk h) (hp0:0<=pick) (hp1:pick<=255):
 Calls Tryz.prog 18 #[.agg (aj p h),.bool plain,VI pick] w fun e w'=>(∃q,e=.returned (.agg (Kb true (bT plain pick h).cause (bT plain pick h).tval q (bT plain pick h).h))∧HartIn w' q (bT plain pick h).h∧∀x,some x∈aU q->w.heap.size<=x.block)∧Bw w w':=by
 have CV:Hid (∀u,Bw w u->Calls Tryz.prog 48 #[.agg (aj p h)] u fun e w'=>e=.returned (.bool true)∧Bw u w'):=fun u hu=>by
  have:=JU p h u (hi.keep hu) hk.satp.1 hk.satp.2 hk.tvec.1;rw [hk.valid] at this;exact this
 have CS:=hid fun u (hu:Bw w u)=>sQ hO p h pick u (hi.keep hu) hk ⟨hp0,hp1⟩;have SA:(aj p h).size=21:=rfl;clear hi hk;generalize bT plain pick h=X at *;generalize aj p h=A at *;go_enter Tryz.func18,Tryz.ntmps18;go_upto_region 1 with fail;have F:=ku w A Kr 43 50;generalize (w.alloc (Obj.cells A 43)).alloc (Obj.cells Kr 50)=u0 at F |-;obtain ⟨h3,h6,l1,nB⟩:=F;have lz:w.heap.size+1<u0.heap.size:=by omega
 have H3:Hid _:=h3;have H6:Hid _:=h6;clear h3 h6 l1;have J:Hid _:=aT (P:=Tryz.prog) (T:=43) H3.out Tryz.underlying43 rfl (by rw [SA];exact fm);go_wp2_with (first | ((with_reducible refine aZ ?_ J.out ?_);(exact rfl)));refine (CV.out u0 nB).mono ?_;rintro e u1 ⟨rfl,k1⟩;replace nB:=bst nB k1;replace H3:=ah H3 k1;replace H6:=ah H6 k1;replace lz:=ltl lz k1.size;clear k1 J;have J:Hid _:=aT (P:=Tryz.prog) (T:=43) H3.out Tryz.underlying43 rfl (by rw [SA];exact fm);go_wp2_with (first | ((with_reducible refine aZ ?_ J.out ?_);(exact rfl)));refine (CS.out u1 nB).mono ?_;rintro e u2 ⟨⟨q,al,cl,rfl,hI,hq,_⟩,k2⟩;replace nB:=bst nB k2;replace H6:=ah H6 k2;have lz2:=ltl lz k2.size;have HI:Hid _:=hI.h;have HQ:Hid (∀x,some x∈aU q->w.heap.size+2<=x.block):=fun x hx=>by have:=hq x hx;omega
 clear k2 J H3 hI hq;have RA:(aF q al cl plain pick X).size=31:=rfl;have RO:=dO q al cl plain pick X;have R23:Hid ((aF q al cl plain pick X)[23]?=some (VI X.cause)):=by show _=_;rfl
 have R24:Hid ((aF q al cl plain pick X)[24]?=some (VU X.tval)):=by show _=_;rfl
 have R0:Hid _:=Kk q al cl plain pick X;generalize aF q al cl plain pick X=RR at *;have a7:=bX u2 eV 61;have HS7:Hid _:=aR (P:=Tryz.prog) (T:=61) (V:=RR) a7.1 (by rw [RA];exact dx) (by rw [RA,aS]) RO;have e7:Hid _:=aH (V:=RR) a7.1 (by rw [RA,aS]);have n7:=aJ nle RR.toList 0 _ a7.2.2;have l7:((u2.alloc (Obj.cells eV 61)).setCells u2.heap.size 0 RR.toList).heap.size=u2.heap.size+1:=by rw [cJ,a7.2.1]
 go_upto_region 4 with (first | ((with_reducible refine ax ?_ ?_ HS7.out ?_);(exact rfl);(exact rfl)));generalize (u2.alloc (Obj.cells eV 61)).setCells u2.heap.size 0 RR.toList=u3 at e7 n7 l7 |-;replace nB:=bst nB n7;replace H6:=ah H6 n7;replace HI:Hid _:=HI.out.keep n7;have lz3:w.heap.size+1<u3.heap.size:=by omega
 have c23:=ab e7.out 23 R23.out;have c24:=ab e7.out 24 R24.out;have J7:Hid _:=ez (P:=Tryz.prog) (T:=43) e7.out Tryz.underlying43 rfl (o:=0) (aj q X.h).toList fm R0.out rfl;rw [show (aj q X.h).toList.toArray=#[.slice q.am X.h.mem.length q.cm,.slice q.ar X.h.regs.length q.cr,VU X.h.pc,VI X.h.mode,.bool X.h.sum,.bool X.h.mxr,VU X.h.satp,VU X.h.tvec,VU X.h.epc,VI X.h.emode,VI X.h.cause,VU X.h.tval,VI X.h.k.i.sets,VI X.h.k.i.ways,.slice q.a1 X.h.k.i.es.length q.c1,VI X.h.k.d.sets,VI X.h.k.d.ways,.slice q.a2 X.h.k.d.es.length q.c2,VI X.h.k.p.sets,VI X.h.k.p.ways,.slice q.a3 X.h.k.p.es.length q.c3] from rfl] at J7;have HS:Hid _:=aR (P:=Tryz.prog) (T:=50) (V:=Kb true X.cause X.tval q X.h) H6.out Kt rfl (Kq _ _ _ _ _);have e1:=aH (V:=Kb true X.cause X.tval q X.h) H6.out rfl;have e2:=aJ (show w.heap.size<=w.heap.size+1 by omega) (Kb true X.cause X.tval q X.h).toList 0 _ nB;have gS:=aG (w.heap.size+1) (Kb true X.cause X.tval q X.h).toList 0 u3 u3 (ak u3 _);clear l7 n7 a7;go_wp2_with (first | ((with_reducible refine aZ ?_ J7.out ?_);(exact rfl)) | ((with_reducible refine ax ?_ ?_ HS.out ?_);(exact rfl);(exact rfl)));refine dE (b:=w.heap.size+1) Tryz.results18 rfl (bE (P:=Tryz.prog) e1 Tryz.underlying50 rfl Kt) rfl ?_;refine ⟨⟨q,rfl,HI.out.gb gS (fun x hx=>?_),fun x hx=>?_⟩,e2⟩
 ·have:=HQ.out x hx;omega
 ·have:=HQ.out x hx;omega
end
theorem Jb:(Tryz.prog.info? 99).map (·.size)=some 2:=by kernel_rfl
theorem EU {w w':World} (h:w.grownBy w' none):Bw w w':=⟨h.os,h.tape,h.output,h.size,fun i hi=>h.block i hi (by simp)⟩
theorem Ix (n:Nat) (hn:n<=20000) (base:Nat) (u:World) (hb:base<=u.heap.size):∃u',(Instr.makeSlice 27 (VI 0) (VI (n:Int))).run Tryz.prog u=.ok (SL u.heap.size 0 n) u'∧u'.ownsRow base 102 4 (SL u.heap.size 0 n) 0 []∧Bw u u':=by
 obtain ⟨i0,hi,hz0,hz1,hz2⟩:=info_parts Tryz.infoEv;obtain ⟨u',h1,h2,h3⟩:=run_make_own (P:=Tryz.prog) u base 27 102 i0 _ 4 Tryz.underlying27 hi hz0 hz1 .i64 .i64 n (by rw [hz2];omega) (by unfold maxLen;omega) hb;exact ⟨u',h1,h2,EU h3⟩
structure RunP (w wr:World) (B ge cap:Nat) (X:Nat->Prop) (PI:KM->World->Prop) (m:MP) (pa:Option Addr) (pc:Nat) (ps:List Int) (i:Nat) (O:Nat->Prop) (ov:Value) (ol:List (Nat × Int)) (h:HartM) (evs:List EvM):Prop where
 n:Bw w wr
 h4:wr.heap[w.heap.size]?=some (.cells mJ 31 (0,0))
 pk:wr.ownsRow w.heap.size 2 1 (.slice pa ps.length pc) ps.length (cU ps)
 pl:∀g,(Value.slice pa ps.length pc).ownBlock=some g->g<B
 mw:MW wr O X m ov h ol
 pi:PI h.k wr
 ok:HOk h
 ob:∀i,O i->B<=i
 ev:wr.ownsRow w.heap.size 102 4 (SL ge i cap) i (iY evs)
 eo:¬O ge
theorem RunP.low {w wr v:World} {B ge cap:Nat} {X:Nat->Prop} {PI:KM->World->Prop} {PA:Int->World->RunM->Prop} {plain:Bool} {base:Nat} {m:MP} {pa:Option Addr} {pc:Nat} {ps:List Int} {i:Nat} {O:Nat->Prop} {ov:Value} {ol:List (Nat × Int)} {h:HartM} {evs:List EvM} (k:RunP w wr B ge cap X PI m pa pc ps i O ov ol h evs) (hP:Path m plain base X PI PA) (hb:Bw wr v):RunP w v B ge cap X PI m pa pc ps i O ov ol h evs:=
 ⟨bst k.n hb,ae k.h4 hb (hpl k.h4),aq k.pk hb,k.pl,k.mw.low hb,(hP.ok 0 h ⟨by omega,by omega⟩).framei wr v k.pi hb.size (fun i hi=>hb.block i (k.mw.xo i hi).2),k.ok,k.ob,aq k.ev hb,k.eo⟩
theorem RunP.step {w wr v:World} {B ge cap:Nat} {X:Nat->Prop} {PI:KM->World->Prop} {PA:Int->World->RunM->Prop} {plain:Bool} {base:Nat} {m:MP} {pa:Option Addr} {pc:Nat} {ps:List Int} {i:Nat} {O O':Nat->Prop} {ov ov':Value} {ol ol':List (Nat × Int)} {h:HartM} {evs:List EvM} {y:Int} (k:RunP w wr B ge cap X PI m pa pc ps i O ov ol h evs) (hP:Path m plain base X PI PA) (hy:0<=y∧y<=255) (hB:w.heap.size<B)
 (kw:MW v O' X m ov' (bT plain y h).h ol') (kp:Kp O wr v) (hO:∀i,i<wr.heap.size->O' i->O i) (hA:PA y v (bT plain y h)) (hBw:B<=wr.heap.size):RunP w v B ge cap X PI m pa pc ps i O' ov' ol' (bT plain y h).h evs:=by
 refine ⟨kp.below k.n k.n.size (fun i hi=>by have:=k.ob i hi;omega),kp.heap k.h4 (fun hh=>by have:=k.ob _ hh;omega),kp.own k.pk (fun g e hh=>by have:=k.ob g hh;have:=k.pl g e;omega),k.pl,kw,hP.next y v _ hA,(mt plain hy k.ok).h,fun j hj=>?_,kp.own k.ev (fun g e hh=>?_),fun hh=>k.eo (hO ge (db k.ev).2.2 hh)⟩
 ·by_cases hlt:j<wr.heap.size
  ·exact k.ob j (hO j hlt hj)
  ·omega
 ·simp only [Value.ownBlock,Option.some.injEq] at e;exact k.eo (e ▸ hh)
theorem RunP.next {w wr v:World} {B ge cap:Nat} {X:Nat->Prop} {PI:KM->World->Prop} {PA:Int->World->RunM->Prop} {plain:Bool} {base:Nat} {m:MP} {pa:Option Addr} {pc:Nat} {ps:List Int} {i:Nat} {O:Nat->Prop} {ov:Value} {ol:List (Nat × Int)} {h:HartM} {evs:List EvM} {e:EvM} (k:RunP w wr B ge cap X PI m pa pc ps i O ov ol h evs) (hP:Path m plain base X PI PA)
 (hg:wr.grownBy v (some ge)) (ho:v.ownsRow w.heap.size 102 4 (SL ge (i+1) cap) (i+1) (iY evs++evC e)):RunP w v B ge cap X PI m pa pc ps (i+1) O ov ol h (evs++[e]):=by
 have kp:Kp (fun j=>j=ge) wr v:=Kp.of_gb hg rfl;have lw:=(db k.ev).2.1;simp only at lw;have hx:∀j,X j->j≠ge:=fun j hj e=>k.eo (e ▸ (k.mw.xo j hj).1);refine ⟨kp.below k.n k.n.size (fun i hi=>by omega),kp.heap k.h4 (fun hh=>?_),kp.own k.pk (fun g e' hh=>?_),k.pl,?_,(hP.ok 0 h ⟨by omega,by omega⟩).framei wr v k.pi hg.size (fun j hj=>kp.block j (k.mw.xo j hj).2 (hx j hj)),k.ok,k.ob,?_,k.eo⟩
 ·exact absurd (show (SL ge i cap).ownBlock=some w.heap.size by rw [hh];rfl) (cC k.ev k.h4 (by decide))
 ·exact th k.pk k.ev (by decide) g e' (by rw [hh];rfl)
 ·have mw:=k.mw;have h1:m.b≠ge:=fun e=>k.eo (e ▸ mw.ob);have h2:m.gm≠ge:=fun e=>k.eo (e ▸ mw.om);exact ⟨kp.heap mw.blk h1,kp.blk mw.mem h2,kp.own mw.old fun g e hh=>k.eo (hh ▸ (mw.oo g e).1),mw.ob,mw.om,mw.oo,mw.bm,mw.xb,mw.xm,fun j hj=>⟨(mw.xo j hj).1,ltl (mw.xo j hj).2 hg.size⟩,mw.byt,mw.len,mw.regs,mw.oll,mw.sh,fun j hj=>ltl (mw.obd j hj) hg.size,mw.oln⟩
 ·rw [tJ,show iY [e]=evC e from by simp [iY]];exact ho
def BF (r:Nat) (ea:Option Addr) (n ec:Nat) (q:PtrM) (h:HartM):Array Value:=#[.slice ea n ec,.slice q.am h.mem.length q.cm,.slice q.ar r q.cr,VU h.pc,VI h.mode,.bool h.sum,.bool h.mxr,VU h.satp,VU h.epc,VI h.emode,VI h.cause,VU h.tval]
theorem Df (r:Nat) (ea:Option Addr) (n ec:Nat) (q:PtrM) (h:HartM):(BF r ea n ec q h).all (·.oneCell')=true:=by simp [BF,Value.oneCell']
theorem yJ (a:Option Addr) (len cap:Nat) (zs:List Int) (plain:Bool) (w:World) (hB:Byt w a len zs) (hl:len<=16777216):
 Calls Tryz.prog 12 #[.slice a len cap,.bool plain] w fun e w'=>(∃ge ec q,e=.returned (.agg (dG (some (AD ge 0)) (eM plain (bq zs) (aI zs)).1.length ec q (eM plain (bq zs) (aI zs)).2))∧RsW w.heap.size w' ge ec q (eM plain (bq zs) (aI zs)).1 (eM plain (bq zs) (aI zs)).2)∧Bw w w':=by
 have hok:=la hB.2.1;have pl:=qZ zs;have PB:=hid (jO hB.2.1);have CS:Hid (∀u,Bw w u->Calls Tryz.prog 14 #[.slice a len cap] u fun e v=>(∃p pa pc,e=.returned (.agg (cF p pa pc (aI zs) (bq zs)))∧HartIn v p (aI zs)∧v.ownsRow u.heap.size 2 1 (.slice pa (bq zs).length pc) (bq zs).length (cU (bq zs)))∧Bw u v):=fun u hu=>(mC a len cap zs u (hB.keep hu) hl).mono fun e v d=>by
  obtain ⟨⟨p,pa,pc,he,o⟩,n⟩:=d.own;exact ⟨⟨p,pa,pc,he,o.hart.hin hok.mem hok.ks,o.pick⟩,n⟩
 have hml:(aI zs).mem.length<=1048576:=by
  have:=hok.v.size;simp only [eR,decide_eq_true_eq] at this;omega
 have CM:=hid fun (p:PtrM) (u:World) (hu:HartIn u p (aI zs))=>qw plain p _ u hu hml hok.satp.1 hok.satp.2 hok.tvec.1 hok;clear hB hl hml;generalize aI zs=h0 at *;generalize bq zs=ps at *;obtain ⟨⟨RE,RH⟩,hR⟩:∃R,eM plain ps h0=R:=⟨_,rfl⟩;have HR:Hid _:=hR;rw [hR];clear hR;have HOK:=hid hok;clear hok;go_enter Tryz.func12,Tryz.ntmps12;go_upto_region 1 with fail;have F:=bX w mJ 31;generalize w.alloc (Obj.cells mJ 31)=u0 at F |-;obtain ⟨f4,z4,n0⟩:=F;have H4:Hid _:=f4;clear f4;go_wp2_with fail;refine (CS.out u0 n0).mono ?_;rintro e v1 ⟨⟨p,pa,pc,rfl,hi,op⟩,n1⟩;have s1:=n1.size;have HI:Hid _:=hi;have OP:=hid (bW op n0.size);replace H4:=ah H4 n1;replace n0:=bst n0 n1;clear n1 hi op CS;obtain ⟨v2,hs2,P2,l2,n2⟩:=pV v1 (cF p pa pc h0 ps) rfl (iL _ _ _ _ _);have SH:Hid _:=qd p pa pc h0 ps;have SP:Hid _:=qf p pa pc h0 ps;have HS2:Hid _:=hs2;generalize cF p pa pc h0 ps=S at *;have H5:Hid _:=P2;replace H4:=ah H4 n2;replace n0:=bst n0 n2;replace HI:Hid _:=HI.out.keep n2;replace OP:=hid (aq OP.out n2);clear hs2 P2 n2;go_upto_region 2 with (first | ((with_reducible refine ax ?_ ?_ HS2.out ?_);(exact rfl);(exact rfl)));clear HS2;have J5:Hid _:=ez (P:=Tryz.prog) (T:=43) H5.out Tryz.underlying43 rfl (o:=0) (aj p h0).toList fm SH.out rfl;rw [show (aj p h0).toList.toArray=aj p h0 from rfl] at J5;have CM2:Hid _:=CM.out p v2 HI.out;obtain ⟨A0,hA0⟩:∃A,aj p h0=A:=⟨_,rfl⟩;rw [hA0] at J5 CM2;clear hA0 CM;go_wp2_with (first | ((with_reducible refine aZ ?_ J5.out ?_);(exact rfl)));clear J5;refine Calls.mono CM2.out ?_;rintro e v3 ⟨⟨m,O,X,PI,PA,base,rfl,kw,hP,hI,hO,hbs,hgi,hgd,hgp⟩,n3⟩;have HP:=hid hP;have K3:=hid kw;have HI3:=hid hI;have HO3:=hid hO;have LP:=hid fun g (hg:(Value.slice pa ps.length pc).ownBlock=some g)=>(OP.out.lt g hg).2;replace H4:=ah H4 n3;replace H5:=ah H5 n3;replace n0:=bst n0 n3;replace OP:=hid (aq OP.out n3);have s3:=n3.size;clear n3 kw hP hI hO CM2 HI;have c21:=ab H5.out 21 SP.out;obtain ⟨v4,hmk,oe,n4⟩:=Ix ps.length pl w.heap.size v3 (by have:=n0.size;omega);go_upto_region 4 with fail;have K0:Hid (RunP w v4 v2.heap.size v3.heap.size ps.length X PI m pa pc ps 0 O (SN) [] h0 []):=
  ⟨bst n0 n4,(ah H4 n4).out,aq OP.out n4,LP.out,K3.out.low n4,(HP.out.ok 0 h0 ⟨by omega,by omega⟩).framei v3 v4 HI3.out n4.size (fun i hi=>n4.block i (K3.out.xo i hi).2),HOK.out,HO3.out,oe,fun hh=>by have:=K3.out.obd _ hh;omega⟩
 have c21':=ab (ah H5 n4).out 21 SP.out;have b24:w.heap.size<v2.heap.size:=by omega
 have b23:v2.heap.size<=v4.heap.size:=by have:=n4.size;omega
 clear n4 oe hmk c21 H4 H5 OP LP K3 HI3 HO3 n0 HOK z4 s1 l2 s3;generalize v2.heap.size=BB at *;generalize v3.heap.size=ge at *;go_wp2;go_loopw [8,30] (fun ev ii wr=>∃(i:Nat) (O:Nat->Prop) (ov:Value) (ol:List (Nat × Int)) (h:HartM) (evs:List EvM),i<=ps.length∧evs.length=i∧ev=SL ge i ps.length∧ii=VI i∧RunP w wr BB ge ps.length X PI m pa pc ps i O ov ol h evs∧BB<=wr.heap.size∧(evs++(eM plain (ps.drop i) h).1,(eM plain (ps.drop i) h).2)=(RE,RH)) (fun _ ii _=>ps.length-(intOf ii).toNat)
 case atStart=>exact ⟨0,O,_,[],h0,[],Nat.zero_le _,rfl,rfl,rfl,K0.out,b23,by rw [List.drop_zero,List.nil_append];exact HR.out⟩
 case round=>
 rename World=>wr;obtain ⟨i,O,ov,ol,h,evs,hi,hev,rfl,rfl,k,hbw,hr⟩:=hrel;clear K0 HR c21' b23;have HK:Hid _:=k;have HRR:Hid _:=hr;have HEV:Hid _:=hev;clear k hr hev;by_cases hlt:i<ps.length
 ·have hlt':decide ((i:Int)<(ps.length:Int))=true:=by simp;omega
  obtain ⟨y,hy⟩:∃y,ps[i]=y:=⟨_,rfl⟩;have by':0<=y∧y<=255:=by rw [<-hy];exact PB.out _ (List.getElem_mem hlt)
  have HY:=hid hy;have pki:(cU ps)[i]?=some (VI y):=by
   rw [<-hy];simp [cU,geg hlt]
  obtain ⟨pg,hpg⟩:=kC HK.out.pk (by omega);subst hpg;have lpg:=(db HK.out.pk).2.2;have cpk:wr.cell? (AD pg i)=some (VI y):=by
   have:=aM HK.out.pk i _ pki;simpa using this
  clear pki hy;go_upto_region 7 with fail;clear cpk lpg;have c8:=ab HK.out.mw.blk 8 (v:=VU h.pc) rfl;have c9:=ab HK.out.mw.blk 9 (v:=VI h.mode) rfl;have lmb:=HK.out.mw.lt;go_quiet (fail);have nQ:=tL wr nq;generalize wr.drewN nq=v5 at nQ |-;have K5:Hid _:=HK.out.low HP.out nQ;have s5:=nQ.size;obtain ⟨SM,hSM⟩:∃SM,bT plain y h=SM:=⟨_,rfl⟩;have HSM:Hid (bT plain y h=SM):=hSM;have CS:Hid (Calls Tryz.prog 27 #[PT m.b 0,VI y] v5 (qr plain y h O X m (PA y) v5)):=FK (HP.out.ok y h by') by' v5 K5.out.mw K5.out.pi K5.out.ok;clear c8 c9 lmb nQ hSM;go_wp2_with fail;refine CS.out.mono ?_;rintro e v6 ⟨rfl,O',ov',ol',kw,kp,hO',hA⟩;have K6:Hid (RunP w v6 BB ge ps.length X PI m (some (AD pg 0)) pc ps i O' ov' ol' (bT plain y h).h evs):=RunP.step K5.out HP.out by' b24 kw kp hO' hA (by omega);have s6:=kp.size;rw [HSM.out] at K6 |-;clear kw kp hO' hA CS K5;have a9:=bX v6 #[VI 0,VU 0] 99;have HS9:Hid _:=aR (P:=Tryz.prog) (T:=99) (V:=#[VI SM.cause,VU SM.tval]) a9.1 Jb rfl (by simp [Value.oneCell']);have e9:=aH (V:=#[VI SM.cause,VU SM.tval]) a9.1 rfl;have n9:=aJ nle (#[VI SM.cause,VU SM.tval]:Array Value).toList 0 _ a9.2.2;go_upto_region 9 with (first | ((with_reducible refine ax ?_ ?_ HS9.out ?_);(exact rfl);(exact rfl)));generalize (v6.alloc (Obj.cells #[VI 0,VU 0] 99)).setCells v6.heap.size 0 (#[VI SM.cause,VU SM.tval]:Array Value).toList=v7 at e9 n9 HS9 |-;have K7:Hid _:=K6.out.low HP.out n9;have s7:=n9.size;have c0:=ab e9 0 (v:=VI SM.cause) rfl;have c1:=ab e9 1 (v:=VU SM.tval) rfl;have l7:v6.heap.size<v7.heap.size:=(hpl e9);clear HS9 e9 n9 a9 K6;obtain ⟨en,hen⟩:∃e:EvM,e=⟨h.pc,h.mode,SM.cause,SM.tval⟩:=⟨_,rfl⟩;have hev:evC en=[VU h.pc,VI h.mode,VI SM.cause,VU SM.tval]:=by rw [hen];rfl
  have nA:=(Below.refl v7.heap.size v7).alloc nle (Obj.cells #[VU h.pc,VI h.mode,VI SM.cause,VU SM.tval] 102);have rA:RowC (v7.alloc (Obj.cells #[VU h.pc,VI h.mode,VI SM.cause,VU SM.tval] 102)) (some (AD v7.heap.size 0)) 1 4 (evC en):=by
   rw [hev];exact (OwnC.new 102 4 v7 [VU h.pc,VI h.mode,VI SM.cause,VU SM.tval] 1 rfl (by decide)).row
  have HEN:Hid _:=hen;have RAH:Hid _:=rA;have K8:Hid _:=K7.out.low HP.out nA;have s8:=nA.size;obtain ⟨i0,hi0,_,hz1,_⟩:=info_parts Tryz.infoEv;clear hen hev rA nA K7;go_wp2_with (at_builtin;refine wpList_append_own_spare _ rfl _ _ 27 rfl w.heap.size 102 i0 4 Tryz.underlying27 hi0 hz1 ge i ps.length (iY evs) rfl K8.out.ev (AD v7.heap.size 0) 1 1 (evC en) rfl rfl (pI RAH.out) (BU _) (by omega) ?_;intro v9 o9 g9;have NX:Hid _:=RunP.next K8.out HP.out g9 o9;have s9:=g9.size;clear o9 g9);go_roundw
  case rel=>
   refine ⟨i+1,O',ov',ol',SM.h,evs++[en],by omega,by simp [HEV.out],rfl,by go_num,NX.out,by omega,?_⟩;rw [<-HRR.out,zk plain ps i hlt h evs,HY.out,HSM.out,HEN.out]
  case measure=>simp [intOf];omega
 ·have hin:i=ps.length:=by omega
  subst hin;have hlt':decide ((ps.length:Int)<(ps.length:Int))=false:=by simp
  have hfin:evs=RE∧h=RH:=by
   have q:=HRR.out;rw [List.drop_length,eM] at q;simp only [List.append_nil] at q;exact ⟨congrArg Prod.fst q,congrArg Prod.snd q⟩
  obtain ⟨rfl,rfl⟩:=hfin;have HEL:Hid (evs.length=ps.length):=HEV.out;clear HRR HEV;have sl:=Gc m.b;go_upto_region 11 with fail;have hbk:=HK.out.mw.blk;have C8:∀u:Has m.b (.cells (cV h m.gm ov m.gi m.gd m.gp m.pv) 97 (0,0)),u.w.cell? (AD m.b 8)=some (VU h.pc):=fun u=>ab u.h 8 rfl;have C9:∀u:Has m.b (.cells (cV h m.gm ov m.gi m.gd m.gp m.pv) 97 (0,0)),u.w.cell? (AD m.b 9)=some (VI h.mode):=fun u=>ab u.h 9 rfl;have C10:∀u:Has m.b (.cells (cV h m.gm ov m.gi m.gd m.gp m.pv) 97 (0,0)),u.w.cell? (AD m.b 10)=some (.bool h.sum):=fun u=>ab u.h 10 rfl;have C11:∀u:Has m.b (.cells (cV h m.gm ov m.gi m.gd m.gp m.pv) 97 (0,0)),u.w.cell? (AD m.b 11)=some (.bool h.mxr):=fun u=>ab u.h 11 rfl;have C12:∀u:Has m.b (.cells (cV h m.gm ov m.gi m.gd m.gp m.pv) 97 (0,0)),u.w.cell? (AD m.b 12)=some (VU h.satp):=fun u=>ab u.h 12 rfl;have C14:∀u:Has m.b (.cells (cV h m.gm ov m.gi m.gd m.gp m.pv) 97 (0,0)),u.w.cell? (AD m.b 14)=some (VU h.epc):=fun u=>ab u.h 14 rfl;have C15:∀u:Has m.b (.cells (cV h m.gm ov m.gi m.gd m.gp m.pv) 97 (0,0)),u.w.cell? (AD m.b 15)=some (VI h.emode):=fun u=>ab u.h 15 rfl;have C16:∀u:Has m.b (.cells (cV h m.gm ov m.gi m.gd m.gp m.pv) 97 (0,0)),u.w.cell? (AD m.b 16)=some (VI h.cause):=fun u=>ab u.h 16 rfl;have C17:∀u:Has m.b (.cells (cV h m.gm ov m.gi m.gd m.gp m.pv) 97 (0,0)),u.w.cell? (AD m.b 17)=some (VU h.tval):=fun u=>ab u.h 17 rfl;have C18:∀u:Has m.b (.cells (cV h m.gm ov m.gi m.gd m.gp m.pv) 97 (0,0)),u.w.cell? (AD m.b 18)=some (SL m.gm h.mem.length h.mem.length):=fun u=>ab u.h 18 rfl;have ne:Nonempty (Has m.b (.cells (cV h m.gm ov m.gi m.gd m.gp m.pv) 97 (0,0))):=⟨⟨wr,hbk⟩⟩;have HBk:Hid _:=hbk;clear hbk;generalize cV h m.gm ov m.gi m.gd m.gp m.pv=A at *;refine az (fun w'=>∃u:Has m.b (.cells A 97 (0,0)),w'=u.w) 57 ?_;refine fe (fuel:=3) ⟨⟨wr.drew,HBk.out⟩,rfl⟩ [0,1,2,3,4,5,6,7,8,9,10,12,13,14,15,16,17,18,19,20,21,22,23,24,25,26,27,28,29,30,31,32,33,34,35,36,37,38,39,40,41,42,43,44,45,46,47,48,49,50,51,52,53,54,55,56] ?_;simp only [gM,List.getElem?_toArray,List.getElem?_cons_zero,List.getElem?_cons_succ];repeat (go_big_quiet_step (fail))
  refine wpQuiet_nil ?_;have D1:=bdr wr;refine eF 11 69 rfl ((GE m.b 8 h.regs wr.drew HK.out.mw.regs (C4 (HK.out.mw.low D1))).mono ?_);rintro e v2 ⟨rs,rfl,o2,n2'⟩;have n2:=bst D1 n2';have K2:Hid _:=HK.out.low HP.out n2;have HB2:Hid _:=ah HBk n2;have O2:Hid _:=o2;refine .inl ⟨_,rfl,fun _=>⟨⟨v2,HB2.out⟩,rfl⟩,?_⟩
  go_frame
  obtain ⟨gr,cr,rfl⟩:∃gr cr,rs=SL gr 8 cr:=by
   rcases O2.out.2 with ⟨_,h8⟩ | ⟨g,cap,cur,h1,_⟩
   ·cases h8
   ·exact ⟨_,_,h1⟩
  refine ji 57 115 (.agg (BF 8 (some (AD ge 0)) ps.length ps.length ⟨some (AD m.gm 0),h.mem.length,some (AD gr 0),cr,none,0,none,0,none,0⟩ h)) (w':=v2) rfl (fun _=>⟨⟨v2,HB2.out⟩,rfl⟩) ?_
  go_frame
  obtain ⟨RV,hRV⟩:∃RV,BF 8 (some (AD ge 0)) ps.length ps.length ⟨some (AD m.gm 0),h.mem.length,some (AD gr 0),cr,none,0,none,0,none,0⟩ h=RV:=⟨_,rfl⟩;have hs12:RV.size=12:=by rw [<-hRV];rfl
  have hone:RV.all (·.oneCell')=true:=by rw [<-hRV];exact Df _ _ _ _ _ _
  rw [hRV];have h42:=K2.out.h4;refine ey 58 4 115 rfl (aR (P:=Tryz.prog) (T:=31) (V:=RV) h42 (by rw [hs12];exact tK) (by rw [hs12];rfl) hone) ?_;refine dJ ?_;have e1:=aH (V:=RV) h42 (by rw [hs12];rfl);have e2:=aJ (Nat.le_refl w.heap.size) RV.toList 0 _ K2.out.n;have gS:=aG w.heap.size RV.toList 0 v2 v2 (ak v2 _);have hrg:=K2.out.mw.regs;have hgm:=K2.out.ob _ K2.out.mw.om;have hml:=K2.out.mw.len;have hw1:=K2.out.n.size;have hws:=(hpl HK.out.h4);have ev':=bA K2.out.ev h42 (by decide) gS;have mm':=bA (En (base:=w.heap.size) K2.out.mw.mem (by omega) (by omega)) h42 (by decide) gS;have rr':=bA (bW O2.out (show w.heap.size<=wr.drew.heap.size by have:wr.drew.heap.size=wr.heap.size:=rfl;omega)) h42 (by decide) gS;clear C8 C9 C10 C11 C12 C14 C15 C16 C17 C18 sl;go_wp2_with fail;refine dE (b:=w.heap.size) Tryz.results12 rfl (bE (P:=Tryz.prog) e1 Tryz.underlying31 rfl (by rw [hs12];exact tK)) rfl ?_;refine ⟨⟨ge,ps.length,⟨some (AD m.gm 0),h.mem.length,some (AD gr 0),cr,none,0,none,0,none,0⟩,?_,?_,mm',?_⟩,e2⟩
  ·rw [<-hRV,HEL.out,<-hrg];rfl
  ·rw [HEL.out];exact ev'
  ·show World.ownsRow _ _ _ _ (SL gr h.regs.length cr) _ _;rw [hrg];exact rr'
end Go.Proofs.YtkenjknmfhoppaaGreat
