import Derived.Test.YtjdmhibnhpdjaaaGreatPk07
import Derived.StillTail
namespace Go.Proofs.YtjdmhibnhpdjaaaGreat
open Go.RowKit
set_option linter.unusedVariables false
set_option maxHeartbeats 6400000
set_option maxRecDepth 20000
def kf (zs:List Int):List Value:=zs.map (Value.int .u8)
theorem xV {e:TypeId} {w:World} {g base:Nat} {zs:List Int} (h:Blk e w g zs) (hb:base<=g) (hl:zs.length<=1048576):w.ownsRow base e 1 (SL g zs.length zs.length) zs.length (kf zs):=
 ⟨by simp [kf],.inr ⟨g,zs.length,(zs.map (Value.int .u8)).toArray,rfl,hb,h,nle,by unfold maxLen;omega,by simp,by simp [kf,List.take_of_length_le]⟩⟩
theorem xW (zs:List Int):∀u∈kf zs,u.oneCell'=true:=xE zs
theorem Byt.rowC {w:World} {a:Option Addr} {len:Nat} {zs:List Int} (h:Byt w a len zs):RowC w a len 1 (kf zs):=by
 obtain ⟨h1,h2,h3⟩:=h;refine ⟨by simp [kf,h1],?_⟩;rcases h3 with h3 | ⟨b,off,rfl,hb,hc⟩
 ·exact .inl h3
 ·refine .inr ⟨b,off,rfl,hb,fun i v hv=>?_⟩;have hi:i<len:=by
   have:=(List.getElem?_eq_some_iff.1 hv).1;simpa [kf,h1] using this
  rw [hc i hi];simp only [kf,List.getElem?_map] at hv;cases hz:zs[i]? with
  | none=>simp [hz] at hv
  | some z=>simpa [hz] using hv
theorem Byt.addr {w:World} {a:Option Addr} {len:Nat} {zs:List Int} (h:Byt w a len zs) (hl:0<len):(a=none->len=0)∧∀q,a=some q->q.spot=none:=by
 rcases h.2.2 with h3 | ⟨b,off,rfl,hb,hc⟩
 ·omega
 ·exact ⟨fun h=>(by cases h),fun q hq=>by cases hq;rfl⟩
def vg (p:PtrM) (gm cm gr cr:Nat):PtrM:=⟨some (AD gm 0),cm,some (AD gr 0),cr,p.a1,p.c1,p.a2,p.c2,p.a3,p.c3⟩
def pK (p:PtrM) (a1:Option Addr) (c1:Nat) (a2:Option Addr) (c2:Nat) (a3:Option Addr) (c3:Nat):PtrM:=⟨p.am,p.cm,p.ar,p.cr,a1,c1,a2,c2,a3,c3⟩
theorem KOwn.gb {base r:Nat} {w w':World} {v:Value} {k:KM} (h:KOwn base w v k) (hg:w.grownBy w' (some r)) (hr:r<base):KOwn base w' v k:=by
 obtain ⟨g1,c1,g2,c2,g3,c3,rfl,o1,o2,o3⟩:=h;exact ⟨g1,c1,g2,c2,g3,c3,rfl,aD o1 hg hr,aD o2 hg hr,aD o3 hg hr⟩
theorem KOwn.open {base:Nat} {w:World} {v:Value} {k:KM} (h:KOwn base w v k):∃a1 c1 a2 c2 a3 c3,∀p,v=.agg (kA (pK p a1 c1 a2 c2 a3 c3) k):=by
 obtain ⟨g1,c1,g2,c2,g3,c3,rfl,o1,o2,o3⟩:=h;exact ⟨some (AD g1 0),c1,some (AD g2 0),c2,some (AD g3 0),c3,fun p=>rfl⟩
def KRows (base:Nat) (w:World) (q:PtrM) (k:KM):Prop:=
 w.ownsRow base 153 6 (.slice q.a1 k.i.es.length q.c1) k.i.es.length (ao k.i.es)∧w.ownsRow base 153 6 (.slice q.a2 k.d.es.length q.c2) k.d.es.length (ao k.d.es)∧w.ownsRow base 153 6 (.slice q.a3 k.p.es.length q.c3) k.p.es.length (ao k.p.es)
theorem KRows.gb {base r:Nat} {w w':World} {q:PtrM} {k:KM} (h:KRows base w q k) (hg:w.grownBy w' (some r)) (hr:r<base):KRows base w' q k:=
 ⟨aD h.1 hg hr,aD h.2.1 hg hr,aD h.2.2 hg hr⟩
theorem KRows.set {base pb:Nat} {w w':World} {q:PtrM} {k:KM} {cur:Array Value} {T:TypeId} {f:Nat × Nat} (h:KRows base w q k) (hp:w.heap[pb]?=some (.cells cur T f)) (hT:T≠153) (hg:w.grownBy w' (some pb)):KRows base w' q k:=
 ⟨ak h.1 hp hT hg,ak h.2.1 hp hT hg,ak h.2.2 hp hT hg⟩
theorem KRows.keep {base:Nat} {w w':World} {q:PtrM} {k:KM} (h:KRows base w q k) (hb:Bw w w'):KRows base w' q k:=
 ⟨ab h.1 hb,ab h.2.1 hb,ab h.2.2 hb⟩
theorem bX {base:Nat} {w:World} {t:TlbM} {a:Option Addr} {c:Nat} (ho:w.ownsRow base 153 6 (.slice a t.es.length c) t.es.length (ao t.es)) (hk:aE t):TlbAt w (.agg #[VI t.sets,VI t.ways,.slice a t.es.length c]) t:=by
 have hr:=dq ho;rcases ho.2 with ⟨h2,h3⟩ | ⟨g',cap',cur,h2,hb,hg,hc1,hc2,_⟩
 ·simp only [Value.slice.injEq] at h2;obtain ⟨rfl,h4,rfl⟩:=h2;exact ⟨none,0,rfl,hr,hk.1,hk.2.1,hk.2.2.1,hk.2.2.2,by omega,by omega,fun _=>⟨h4,rfl⟩,fun q hq=>(by cases hq)⟩
 ·simp only [Value.slice.injEq] at h2;obtain ⟨rfl,_,rfl⟩:=h2;exact ⟨some (AD g' 0),_,rfl,hr,hk.1,hk.2.1,hk.2.2.1,hk.2.2.2,hc1,by unfold maxLen at hc2;omega,(by intro h;cases h),(by intro q hq;cases hq;rfl)⟩
theorem KRows.at {base:Nat} {w:World} {q:PtrM} {k:KM} (h:KRows base w q k) (hk:kOk k):KAt w (.agg (kA q k)) k:=
 ⟨_,_,_,_,_,_,rfl,bX h.1 hk.1,bX h.2.1 hk.2.1,bX h.2.2 hk.2.2⟩
theorem jR {base size n c:Nat} {e:TypeId} {w:World} {a:Option Addr} {cs:List Value} (h:w.ownsRow base e size (.slice a n c) n cs) (q:Addr) (hq:a=some q):base<=q.block∧q.block<w.heap.size:=by
 subst hq;exact (eh h).2
theorem KRows.ptrs {base:Nat} {w:World} {p:PtrM} {k:KM} (h:KRows base w p k) (q:Addr) (hq:p.a1=some q∨p.a2=some q∨p.a3=some q):base<=q.block∧q.block<w.heap.size:=by
 rcases hq with hq | hq | hq
 ·exact jR h.1 q hq
 ·exact jR h.2.1 q hq
 ·exact jR h.2.2 q hq
theorem Ax {B:Nat} {p:PtrM} {a1 a2 a3:Option Addr} {c1 c2 c3:Nat} (h:∀q,(a1=some q∨a2=some q∨a3=some q)->B<=q.block):From B p (pK p a1 c1 a2 c2 a3 c3):=fun q hq=>by
 simp only [aH,pK,List.mem_cons,List.not_mem_nil,or_false] at hq;rcases hq with hq | hq | hq | hq | hq
 ·exact .inl (by simp [aH,hq])
 ·exact .inl (by simp [aH,hq])
 ·exact .inr (h q (.inl hq.symm))
 ·exact .inr (h q (.inr (.inl hq.symm)))
 ·exact .inr (h q (.inr (.inr hq.symm)))
theorem EU {B:Nat} {p:PtrM} {a1 a2 a3:Option Addr} {c1 c2 c3:Nat} (hp:∀q,some q∈aH p->q.block<B) (h:∀q,(a1=some q∨a2=some q∨a3=some q)->q.block<B):∀q,some q∈aH (pK p a1 c1 a2 c2 a3 c3)->q.block<B:=fun q hq=>by
 simp only [aH,pK,List.mem_cons,List.not_mem_nil,or_false] at hq;rcases hq with hq | hq | hq | hq | hq
 ·exact hp q (by simp [aH,hq])
 ·exact hp q (by simp [aH,hq])
 ·exact h q (.inl hq.symm)
 ·exact h q (.inr (.inl hq.symm))
 ·exact h q (.inr (.inr hq.symm))
theorem KOwn.rows {base:Nat} {w:World} {v:Value} {k:KM} (h:KOwn base w v k):∃a1 c1 a2 c2 a3 c3,∀p,v=.agg (kA (pK p a1 c1 a2 c2 a3 c3) k)∧KRows base w (pK p a1 c1 a2 c2 a3 c3) k:=by
 obtain ⟨g1,c1,g2,c2,g3,c3,rfl,o1,o2,o3⟩:=h;exact ⟨some (AD g1 0),c1,some (AD g2 0),c2,some (AD g3 0),c3,fun p=>⟨rfl,o1,o2,o3⟩⟩
theorem KAt.ok {w:World} {v:Value} {k:KM} (h:KAt w v k):kOk k:=by
 obtain ⟨a1,c1,a2,c2,a3,c3,rfl,h1,h2,h3⟩:=h;exact ⟨h1.ok,h2.ok,h3.ok⟩
theorem vN (p q:PtrM) (h:HartM) (k:KM):mn (bJ p h) 12 (kA q k).toList=bJ (pK p q.a1 q.c1 q.a2 q.c2 q.a3 q.c3) (withK h k):=by
 simp [mn,bJ,kA,pK,withK]
theorem xX (p:PtrM) (k:KM):(kA p k).all (·.oneCell')=true:=by
 simp [kA,Value.oneCell']
theorem kI:(Tryz.prog.info? 35).map (·.size)=some 9:=by kernel_rfl
theorem zN (p:PtrM) (h:HartM) (w:World) (hi:HartIn w p h) (hm0:0<h.mem.length) (hm1:h.mem.length<=1048576) (hr1:h.regs.length<=1048576):
 Calls Tryz.prog 42 #[.agg (bJ p h)] w fun e w'=>(∃p',e=.returned (.agg (bJ p' h))∧HartIn w' p' h∧∀q,some q∈aH p'->w.heap.size<=q.block)∧Bw w w':=by
 have HI:=hid hi;have HB:=hid hi.mem.rowC;have HBa:Hid ((p.am=none->h.mem.length=0∧p.cm=0)∧∀q,p.am=some q->q.spot=none):=⟨fun hh=>absurd ((hi.mem.addr hm0).1 hh) (by omega),(hi.mem.addr hm0).2⟩;have HR:=hid hi.regs;have HRa:=hid hi.rega;have HK:=hid hi.ks;have HZ:=hid hi.mem.2.1;have HP:Hid (∀gm cm gr cr,((bJ p h).setIfInBounds 0 (SL gm h.mem.length cm)).setIfInBounds 1 (SL gr h.regs.length cr)=bJ (vg p gm cm gr cr) h):=fun gm cm gr cr=>rfl;have hsz:=kl p h;have g0:(bJ p h)[0]?=some (.slice p.am h.mem.length p.cm):=rfl;have g1:(bJ p h)[1]?=some (.slice p.ar h.regs.length p.cr):=rfl;have HO:=hid (kZ p h);have HKp:Hid (∀x y,((((bJ p h).setIfInBounds 0 x).setIfInBounds 1 y).toList.drop 12).take 9=(kA p h.k).toList):=fun x y=>by simp [bJ,kA]
 generalize bJ p h=C at *;obtain ⟨M,hM⟩:∃M,h.mem.length=M:=⟨_,rfl⟩;obtain ⟨N,hN⟩:∃N,h.regs.length=N:=⟨_,rfl⟩;rw [hM] at HB HBa g0 hm0 hm1 HP;rw [hN] at HR HRa g1 hr1 HP;have HM:=hid hM;have HN:=hid hN;clear hi hM hN;go_enter Tryz.func42,Tryz.ntmps42;go_upto_region 1 with fail;obtain ⟨v1,Ev1,F⟩:=ax2 w C kV 37 37;rw [Ev1.out];clear Ev1;obtain ⟨h3,h6,l1,n1⟩:=F;have H3:Hid _:=h3;have H6:Hid _:=h6;have b1:w.heap.size<v1.heap.size:=by omega
 have b2:w.heap.size+1<v1.heap.size:=by omega
 have c0:=gX h3 0 g0;have OE:=OwnC.new 5 1 v1 [] 0 rfl (by decide);have nE:=(Below.refl v1.heap.size v1).alloc nle (Obj.cells #[] 5);clear h3 h6 l1;go_upto_region 2 with (at_builtin;refine mJ _ rfl (.tmp 3) (.tmp 5) 22 rfl 5 Tryz.underlying22 (.int .u8 0) 1 1 Tryz.infoB rfl (by decide) v1.heap.size v1.heap.size 0 0 [] rfl OE p.am M p.cm (kf h.mem) rfl HBa.out.1 HBa.out.2 (RowC.keep (RowC.keep HB.out n1) nE) (xW _) (by omega) (by omega) v1.heap.size v1 nE nle ?_;intro g2 cap2 v2 o2 n2;have c0:=gX (ae H3.out n2 b1) 0 g0;have f0:=ie (ae H3.out n2 b1) 0;have b3:=ltl b1 n2.size;clear OE nE);simp only [Nat.zero_add,List.nil_append] at o2 |-;have f2:=o2.facts;have hg1:=f2.2.1;have hg2:=f2.2.2.1;have HC2:Hid (M<=cap2∧cap2<=9223372036854775807):=⟨f2.2.2.2.1,by have:=f2.2.2.2.2;unfold maxLen at this;exact this⟩;have ng':g2≠w.heap.size:=by omega
 have n12:=eD (bst n1 n2) nle 0 (SL g2 M cap2);have K3:Hid _:=iI (ae H3.out n2 b1) 0 (SL g2 M cap2);have K6:Hid _:=dz (ae H6.out n2 b2) 0 (SL g2 M cap2) (show w.heap.size+1≠w.heap.size by omega);have O2:Hid _:=OwnC.gb o2 (hZ (aM v2 (some w.heap.size)) 0 (SL g2 M cap2)) ng';have z2:v1.heap.size<=(v2.setCell (AD w.heap.size 0) (SL g2 M cap2)).heap.size:=by simp;exact n2.size
 have hg2':g2<(v2.setCell (AD w.heap.size 0) (SL g2 M cap2)).heap.size:=by simp;exact hg2
 generalize v2.setCell (AD w.heap.size 0) (SL g2 M cap2)=v3 at n12 K3 K6 O2 z2 hg2' |-;clear o2 f2 n2 H3 H6 c0 n1 hg2 HB HBa;have g1':(C.setIfInBounds 0 (SL g2 M cap2))[1]?=some (.slice p.ar N p.cr):=by
  rw [Array.getElem?_setIfInBounds_ne (by omega)];exact g1
 have c1:=gX K3.out 1 g1';have b4:w.heap.size<v3.heap.size:=by omega
 have b5:w.heap.size+1<v3.heap.size:=by omega
 have OE:=OwnC.new 27 1 v3 [] 0 rfl (by decide);have nE:=(Below.refl v3.heap.size v3).alloc nle (Obj.cells #[] 27);go_upto_region 3 with (at_builtin;refine mJ _ rfl (.tmp 8) (.tmp 10) 26 rfl 27 Tryz.underlying26 (VU 0) 1 8 Tryz.infoU rfl (by decide) v3.heap.size v3.heap.size 0 0 [] rfl OE p.ar N p.cr (cZ h.regs) rfl HRa.out.1 HRa.out.2 (RowC.keep (RowC.keep HR.out n12) nE) (sk _) (by omega) (by omega) v3.heap.size v3 nE nle ?_;intro g4 cap4 v4 o4 n4;have c1:=gX (ae K3.out n4 b4) 1 g1';have f1:=ie (ae K3.out n4 b4) 1;have b6:=ltl b4 n4.size;clear OE nE);simp only [Nat.zero_add,List.nil_append] at o4 |-;have f4:=o4.facts;have hh1:=f4.2.1;have hh2:=f4.2.2.1;have HC4:Hid (N<=cap4∧cap4<=9223372036854775807):=⟨f4.2.2.2.1,by have:=f4.2.2.2.2;unfold maxLen at this;exact this⟩;have nh':g4≠w.heap.size:=by omega
 have n14:=eD (bst n12 n4) nle 1 (SL g4 N cap4);have J3:Hid _:=iI (ae K3.out n4 b4) 1 (SL g4 N cap4);have J6:Hid _:=dz (ae K6.out n4 b5) 1 (SL g4 N cap4) (show w.heap.size+1≠w.heap.size by omega);have O4:Hid _:=OwnC.gb o4 (hZ (aM v4 (some w.heap.size)) 1 (SL g4 N cap4)) nh';have O5:Hid _:=OwnC.gb (OwnC.keep O2.out n4 hg2') (hZ (aM v4 (some w.heap.size)) 1 (SL g4 N cap4)) ng';have z4:v3.heap.size<=(v4.setCell (AD w.heap.size 1) (SL g4 N cap4)).heap.size:=by simp;exact n4.size
 have hh2':g4<(v4.setCell (AD w.heap.size 1) (SL g4 N cap4)).heap.size:=by simp;exact hh2
 generalize v4.setCell (AD w.heap.size 1) (SL g4 N cap4)=v5 at n14 J3 J6 O4 O5 z4 hh2' |-;clear o4 f4 n4 K3 K6 c1 hh2 HR HRa O2 n12;have hsz2:((C.setIfInBounds 0 (SL g2 M cap2)).setIfInBounds 1 (SL g4 N cap4)).size=21:=by simp only [Array.size_setIfInBounds,hsz]
 have HE:Hid _:=HP.out g2 cap2 g4 cap4;have HLk:Hid _:=jB (P:=Tryz.prog) (T:=35) J3.out Tryz.underlying35 rfl (o:=12) (kA p h.k).toList kI (HKp.out _ _) rfl;have HKc:=hid fun u (hu:Bw w u)=>lY _ _ u (HK.out.keep hu);rw [show (kA p h.k).toList.toArray=kA p h.k from rfl] at HLk;generalize ((C.setIfInBounds 0 (SL g2 M cap2)).setIfInBounds 1 (SL g4 N cap4))=D at J3 hsz2 HE HLk;have b7:w.heap.size<v5.heap.size:=by omega
 have b8:w.heap.size+1<v5.heap.size:=by omega
 have HKK:=hid HK.out.ok;generalize kA p h.k=E at *;go_wp2_with (first | ((with_reducible refine iE ?_ HLk.out ?_);(exact rfl)));refine (HKc.out v5 n14).mono ?_;rintro e v6 ⟨⟨x,rfl,hx⟩,n6⟩;obtain ⟨a1,c1,a2,c2,a3,c3,hxe⟩:=hx.rows;have hx0:=(hxe p).1;subst hx0;have HX:=hid ((hxe p).2);clear hxe hx;have I3:Hid _:=ae J3.out n6 b7;have I6:Hid _:=ae J6.out n6 b8;have n16:=bst n14 n6;have O6:Hid _:=OwnC.keep O4.out n6 hh2';have O7:Hid _:=OwnC.keep O5.out n6 (by omega);have hEs:(kA (pK p a1 c1 a2 c2 a3 c3) h.k).size=9:=rfl;have HSk:Hid _:=kn (P:=Tryz.prog) (T:=35) I3.out (o:=12) (V:=kA (pK p a1 c1 a2 c2 a3 c3) h.k) (by rw [hEs];exact kI) (by rw [hEs,hsz2];omega) (xX _ _);have e1:=bD w.heap.size (kA (pK p a1 c1 a2 c2 a3 c3) h.k).toList 12 v6 D _ _ I3.out (by rw [hsz2];show 12+9<=21;omega);rw [HE.out,vN] at e1;have L3:Hid _:=e1;have L6:Hid _:=me I6.out 12 (kA (pK p a1 c1 a2 c2 a3 c3) h.k).toList (show w.heap.size+1≠w.heap.size by omega);have n17:=dU (Nat.le_refl w.heap.size) (kA (pK p a1 c1 a2 c2 a3 c3) h.k).toList 12 v6 n16;have gG:=iq w.heap.size (kA (pK p a1 c1 a2 c2 a3 c3) h.k).toList 12 v6 v6 (aM v6 _);have O8:Hid _:=OwnC.gb O6.out gG nh';have O9:Hid _:=OwnC.gb O7.out gG ng';have HX2:=hid (KRows.gb HX.out gG b7);have hDD:(bJ (pK (vg p g2 cap2 g4 cap4) (pK p a1 c1 a2 c2 a3 c3).a1 (pK p a1 c1 a2 c2 a3 c3).c1 (pK p a1 c1 a2 c2 a3 c3).a2 (pK p a1 c1 a2 c2 a3 c3).c2 (pK p a1 c1 a2 c2 a3 c3).a3 (pK p a1 c1 a2 c2 a3 c3).c3) (withK h h.k)).size=21:=rfl;have hone:=kZ (pK (vg p g2 cap2 g4 cap4) (pK p a1 c1 a2 c2 a3 c3).a1 (pK p a1 c1 a2 c2 a3 c3).c1 (pK p a1 c1 a2 c2 a3 c3).a2 (pK p a1 c1 a2 c2 a3 c3).c2 (pK p a1 c1 a2 c2 a3 c3).a3 (pK p a1 c1 a2 c2 a3 c3).c3) (withK h h.k);have HFin:Hid (bJ (pK (vg p g2 cap2 g4 cap4) (pK p a1 c1 a2 c2 a3 c3).a1 (pK p a1 c1 a2 c2 a3 c3).c1 (pK p a1 c1 a2 c2 a3 c3).a2 (pK p a1 c1 a2 c2 a3 c3).c2 (pK p a1 c1 a2 c2 a3 c3).a3 (pK p a1 c1 a2 c2 a3 c3).c3) (withK h h.k)=bJ (pK (vg p g2 cap2 g4 cap4) a1 c1 a2 c2 a3 c3) h):=rfl;generalize bJ (pK (vg p g2 cap2 g4 cap4) (pK p a1 c1 a2 c2 a3 c3).a1 (pK p a1 c1 a2 c2 a3 c3).c1 (pK p a1 c1 a2 c2 a3 c3).a2 (pK p a1 c1 a2 c2 a3 c3).c2 (pK p a1 c1 a2 c2 a3 c3).a3 (pK p a1 c1 a2 c2 a3 c3).c3) (withK h h.k)=G at L3 hDD hone HFin;generalize kA (pK p a1 c1 a2 c2 a3 c3) h.k=E2 at *;go_upto_region 4 with (first | ((with_reducible refine it ?_ ?_ HSk.out ?_);(exact rfl);(exact rfl)));generalize v6.setCells w.heap.size 12 E2.toList=v7 at L3 L6 n17 O8 O9 HX2 |-;have HLr:Hid _:=iA (P:=Tryz.prog) (T:=37) L3.out Tryz.underlying37 rfl (by rw [hDD];exact kq);have HSr:Hid _:=iC (P:=Tryz.prog) (T:=37) (V:=G) L6.out (by rw [hDD];exact kq) (by rw [hDD,kC]) hone;have e1:=fG (V:=G) L6.out (by rw [hDD,kC]);have e2:=dU (show w.heap.size<=w.heap.size+1 by omega) (G).toList 0 _ n17;have eG:=iq (w.heap.size+1) (G).toList 0 v7 v7 (aM v7 _);go_wp2_with (first
  | ((with_reducible refine iE ?_ HLr.out ?_);(exact rfl))
  | ((with_reducible refine it ?_ ?_ HSr.out ?_);(exact rfl);(exact rfl)))
 refine jE (b:=w.heap.size+1) Tryz.results42 rfl (iH (P:=Tryz.prog) e1 Tryz.underlying37 rfl (by rw [hDD];exact kq)) rfl ?_;have OA:=OwnC.gb O8.out eG (show g4≠w.heap.size+1 by omega);have OB:=OwnC.gb O9.out eG (show g2≠w.heap.size+1 by omega);have hX3:=KRows.gb HX2.out eG b8;have hks:=KRows.ptrs hX3;simp only [pK] at hks;refine ⟨⟨pK (vg p g2 cap2 g4 cap4) a1 c1 a2 c2 a3 c3,by rw [HFin.out],?_,?_⟩,e2⟩
 rotate_left 1
 ·intro q hq;simp only [aH,pK,vg,List.mem_cons,List.not_mem_nil,or_false] at hq;rcases hq with hq | hq | hq | hq | hq
  ·cases hq;show w.heap.size<=g2;omega
  ·cases hq;show w.heap.size<=g4;omega
  ·have:=(hks q (.inl hq.symm)).1;omega
  ·have:=(hks q (.inr (.inl hq.symm))).1;omega
  ·have:=(hks q (.inr (.inr hq.symm))).1;omega
 refine ⟨?_,?_,?_,?_,⟨fun hh=>(by cases hh),fun q hq=>by cases hq;rfl⟩,?_,?_⟩
 ·have:=OwnB.byt (e:=5) (zs:=h.mem) OB HZ.out;rw [HM.out];exact this
 ·rw [HM.out];exact HC2.out
 ·rw [HN.out];exact OA.row
 ·rw [HN.out];exact HC4.out
 ·exact KRows.at (q:=pK (vg p g2 cap2 g4 cap4) a1 c1 a2 c2 a3 c3) hX3 HKK.out
 ·intro q hq;simp only [aH,pK,vg,List.mem_cons,List.not_mem_nil,or_false] at hq;rcases hq with hq | hq | hq | hq | hq
  ·cases hq;exact (OwnC.facts OB).2.2.1
  ·cases hq;exact (OwnC.facts OA).2.2.1
  ·exact (hks q (.inl hq.symm)).2
  ·exact (hks q (.inr (.inl hq.symm))).2
  ·exact (hks q (.inr (.inr hq.symm))).2
section
variable {P:Program} {ops:Array Oper}
def kJ (ops:Array Oper) (j:Nat):Option Tmp:=(ops[j]?).bind (·.dst)
def uU (ops:Array Oper):Bool:=
 (List.range ops.size).all fun i=>match ops[i]? with
  | none=>true
  | some o=>o.after.all fun e=>!Region.binds .any e || decide (e.on<i)
theorem zw (h:uU ops=true) {i:Nat} {o:Oper} (ho:ops[i]?=some o) {e:Edge} (he:e∈o.after) (hb:Region.binds .any e=true):e.on<i:=by
 have h1:=List.all_eq_true.1 h i (List.mem_range.2 (hpl ho));simp only [ho] at h1;have h2:=Array.all_eq_true_iff_forall_mem.1 h1 e he;simpa [hb] using h2
def wH (ops:Array Oper) (ws:List Nat) (z s:Nat):Bool:=
 Region.noSelect ops && uU ops && (decide (z<ops.size) && (List.range ops.size).all (fun k=>decide (k<z) || decide (ops.size<=k+1) || Region.waitsFor .any ops (k+1) k)) && (List.range z).all fun i=>match ops[i]? with
  | none=>false
  | some o=>(match o.dst with | some d=>decide (d<s) | none=>false) &&
   (!ws.contains i || o.guard.isNone) &&
   ((List.range z).all fun j=>match kJ ops j with
    | none=>false
    | some d=>(j == i || o.dst != some d) && (!(o.looksAt ops).contains d || (decide (j<i) && Region.waitsFor .any ops i j && (ws.contains i || !ws.contains j)))) &&
   ((List.range (z+1)).any fun j=>decide (i<j) && Region.waitsFor .any ops j i)
structure Head (ops:Array Oper) (ws:List Nat) (z s i:Nat) (o:Oper) (d:Tmp):Prop where
 op:ops[i]?=some o
 dst:o.dst=some d
 lt:d<s
 guard:i∈ws->o.guard=none
 apart:∀j,j<z->j≠i->kJ ops j≠some d
 looks:∀j t,j<z->kJ ops j=some t->t∈o.looksAt ops->j<i∧Region.waitsFor .any ops i j=true∧(i∈ws∨j∉ws)
 sink:∃j,i<j∧j<z+1∧Region.waitsFor .any ops j i=true
structure Heads (ops:Array Oper) (ws:List Nat) (z s:Nat):Prop where
 sel:Region.noSelect ops=true
 edges:uU ops=true
 size:z<ops.size
 chain:∀k,z<=k->k+1<ops.size->Region.waitsFor .any ops (k+1) k=true
 head:∀i,i<z->∃o d,Head ops ws z s i o d
theorem Ao {ws:List Nat} {z s:Nat} (h:wH ops ws z s=true):Heads ops ws z s:=by
 simp only [wH,Bool.and_eq_true,decide_eq_true_eq] at h;refine ⟨h.1.1.1,h.1.1.2,h.1.2.1,fun k hk hk'=>?_,fun i hi=>?_⟩
 ·have:=List.all_eq_true.1 h.1.2.2 k (List.mem_range.2 (by omega));simp only [Bool.or_eq_true,decide_eq_true_eq] at this;rcases this with (h | h) | h
  ·omega
  ·omega
  ·exact h
 have h2:=List.all_eq_true.1 h.2 i (List.mem_range.2 hi);cases ho:ops[i]? with
 | none=>simp [ho] at h2
 | some o=>
  simp only [ho,Bool.and_eq_true] at h2;obtain ⟨⟨⟨hd,hg⟩,hj⟩,hs⟩:=h2;cases hdd:o.dst with
  | none=>simp [hdd] at hd
  | some d=>
   simp only [hdd,decide_eq_true_eq] at hd;have hj2:=fun j (hjn:j<z)=>List.all_eq_true.1 hj j (List.mem_range.2 hjn);refine ⟨o,d,ho,hdd,hd,fun hw=>?_,fun j hjn hne he=>?_,fun j t hjn ht hl=>?_,?_⟩
   ·simpa [hw] using hg
   ·have:=hj2 j hjn;simp [he,hdd,hne] at this
   ·have:=hj2 j hjn;simp only [ht,Bool.and_eq_true,Bool.or_eq_true,Bool.not_eq_true',List.contains_eq_mem,decide_eq_false_iff_not,decide_eq_true_eq] at this;rcases this.2 with hc | hc
    ·exact absurd hl hc
    ·exact ⟨hc.1.1,hc.1.2,hc.2⟩
   ·obtain ⟨j,hj,hh⟩:=List.any_eq_true.1 hs;simp only [Bool.and_eq_true,decide_eq_true_eq] at hh;exact ⟨j,hh.1,List.mem_range.1 hj,hh.2⟩
structure Fr (ops:Array Oper) (ws:List Nat) (z:Nat) (a A:Act) (S:Nat->Prop) (p:Nat->Value) (b:Act):Prop where
 defers:b.defers=a.defers
 size:b.tmps.size=a.tmps.size
 old:∀d:Nat,(∀j,j<z->S j->kJ ops j≠some d)->b.tmps[d]?=a.tmps[d]?
 new:∀(d:Nat) j,j<z->S j->j∉ws->kJ ops j=some d->b.tmps[d]?=A.tmps[d]?
 wild:∀(d:Nat) j,j<z->S j->j∈ws->kJ ops j=some d->b.tmps[d]?=some (p j)
theorem fH {b:Act} {d:Nat} {x:Value} (h:d<b.tmps.size):(b.put (some d) x).tmps[d]?=some x:=by
 simp [Act.put,h]
theorem dA {b:Act} {e:Option Tmp} {d:Nat} {x:Value} (h:e≠some d):(b.put e x).tmps[d]?=b.tmps[d]?:=by
 cases e with
 | none=>rfl
 | some e=>simp [Act.put,Array.getElem?_setIfInBounds_ne (show e≠d from fun he=>h (he ▸ rfl))]
theorem Head.is {ws:List Nat} {z s i:Nat} {o:Oper} {d:Tmp} (h:Head ops ws z s i o d):kJ ops i=some d:=by
 rw [kJ,h.op];exact h.dst
theorem Fr.put {ws:List Nat} {z s i d:Nat} {a A b:Act} {S S':Nat->Prop} {p p':Nat->Value} {o:Oper} {x:Value} (h:Fr ops ws z a A S p b) (hh:Head ops ws z s i o d) (hs:a.tmps.size=s) (hx:i∉ws->A.tmps[d]?=some x) (hp:i∈ws->p' i=x) (hp':∀j,j≠i->p' j=p j)
 (hS:∀j,j<z->(S' j↔S j∨j=i)) (hi:i<z):Fr ops ws z a A S' p' (b.put (some d) x):=by
 have one:∀e j,j<z->S' j->kJ ops j=some e->(d=e∧j=i)∨(d≠e∧S j∧j≠i):=fun e j hj hSj hd=>by
  by_cases hji:j=i
  ·subst hji;exact .inl ⟨Option.some.inj (hh.is.symm.trans hd),rfl⟩
  ·refine .inr ⟨fun hde=>hh.apart j hj hji (by rw [hd,hde]),((hS j hj).1 hSj).resolve_right hji,hji⟩
 refine ⟨h.defers,by simp [Act.put,h.size],fun e he=>?_,fun e j hj hSj hw hd=>?_,fun e j hj hSj hw hd=>?_⟩
 ·have hne:d≠e:=fun hde=>he i hi ((hS i hi).2 (.inr rfl)) (by rw [hh.is,hde]);rw [dA (by simpa using hne)];exact h.old e fun j hj hj2=>he j hj ((hS j hj).2 (.inl hj2))
 ·rcases one e j hj hSj hd with ⟨rfl,rfl⟩ | ⟨h1,h2,h3⟩
  ·rw [fH (by rw [h.size,hs];exact hh.lt),hx hw]
  ·rw [dA (by simpa using h1)];exact h.new e j hj h2 hw hd
 ·rcases one e j hj hSj hd with ⟨rfl,rfl⟩ | ⟨h1,h2,h3⟩
  ·rw [fH (by rw [h.size,hs];exact hh.lt),hp hw]
  ·rw [dA (by simpa using h1),hp' j h3];exact h.wild e j hj h2 hw hd
theorem rp {C:World->Prop} {A:Act} {d:Nat}:∀(l:List Oper) (b:Act),(∀o∈l,o.dst≠some d)->wpQuiet P ops C (fun a'=>a'=A) l b->b.tmps[d]?=A.tmps[d]?
 | [],b,_,h=>by rw [show b=A from h]
 | o::l,b,hl,h=>by
  unfold wpQuiet at h;split at h
  ·obtain ⟨v,_,h2⟩:=h;rw [<-rp l _ (fun o' ho'=>hl o' (List.mem_cons_of_mem _ ho')) h2,dA (hl o (List.mem_cons_self ..))]
  ·rw [<-rp l _ (fun o' ho'=>hl o' (List.mem_cons_of_mem _ ho')) h,dA (hl o (List.mem_cons_self ..))]
def lL (ops:Array Oper) (ws:List Nat):Nat->Nat->List Oper
 | 0,_=>[]
 | f+1,k=>if ws.contains k then lL ops ws f (k+1) else (ops[k]?).toList++lL ops ws f (k+1)
theorem rq {ws:List Nat} {o:Oper}:∀(f k:Nat),o∈lL ops ws f k->∃j,k<=j∧j<k+f∧ops[j]?=some o
 | 0,k,h=>by cases h
 | f+1,k,h=>by
  unfold lL at h;split at h
  ·obtain ⟨j,h1,h2,h3⟩:=rq f (k+1) h;exact ⟨j,by omega,by omega,h3⟩
  ·rcases List.mem_append.1 h with h | h
   ·exact ⟨k,nle,by omega,by simpa using h⟩
   ·obtain ⟨j,h1,h2,h3⟩:=rq f (k+1) h;exact ⟨j,by omega,by omega,h3⟩
theorem sN {ws:List Nat} {z s:Nat} {v:World} {a A:Act} {p:Nat->Value} (hH:Heads ops ws z s) (hs:a.tmps.size=s):∀(f k:Nat) (b:Act),k+f=z->
 Fr ops ws z a A (fun j=>j<k∧j∉ws) p b->(∀w0,Bw v w0->wpQuiet P ops (fun w'=>∃u:Lies w0,w'=u.w) (fun a'=>a'=A) (lL ops ws f k) b)->
 Fr ops ws z a A (fun j=>j<z∧j∉ws) p A∧∀i,k<=i->i<z->i∉ws->∃o d x b',Head ops ws z s i o d∧A.tmps[d]?=some x∧Fr ops ws z a A (fun j=>j<i∧j∉ws) p b'∧∀w0,Bw v w0->YieldsIn P ops (fun w'=>∃u:Lies w0,w'=u.w) o x b'
 | 0,k,b,hk,hF,h=>by
  have hk':k=z:=by simpa using hk
  have hb:b=A:=h v brf;subst hk';subst hb;exact ⟨hF,fun i h1 h2=>by omega⟩
 | f+1,k,b,hk,hF,h=>by
  by_cases hkw:k∈ws
  ·have hF':Fr ops ws z a A (fun j=>j<k+1∧j∉ws) p b:=by
    have e:(fun j=>j<k+1∧j∉ws)=(fun j=>j<k∧j∉ws):=by
     funext j;apply propext;constructor
     ·rintro ⟨h1,h2⟩;exact ⟨by rcases Nat.lt_or_ge j k with h | h;exact h;exact absurd (by rw [show j=k by omega];exact hkw) h2,h2⟩
     ·rintro ⟨h1,h2⟩;exact ⟨by omega,h2⟩
    rw [e];exact hF
   have hrec:=sN hH hs f (k+1) b (by omega) hF' (fun w0 hw0=>by
    have:=h w0 hw0;rw [lL,if_pos (by simpa using hkw)] at this;exact this)
   refine ⟨hrec.1,fun i h1 h2 h3=>?_⟩;by_cases hik:i=k
   ·subst hik;exact absurd hkw h3
   ·exact hrec.2 i (by omega) h2 h3
  ·obtain ⟨o',d,hd⟩:=hH.head k (by omega);have hlt:d<b.tmps.size:=by rw [hF.size,hs];exact hd.lt
   have hno:∀o∈lL ops ws f (k+1),o.dst≠some d:=fun o2 ho2 he=>by
    obtain ⟨j,h1,h2,h3⟩:=rq f (k+1) ho2;exact hd.apart j (by omega) (by omega) (by rw [kJ,h3];exact he)
   have one:∀w0,Bw v w0->∃x,A.tmps[d]?=some x∧YieldsIn P ops (fun w'=>∃u:Lies w0,w'=u.w) o' x b∧wpQuiet P ops (fun w'=>∃u:Lies w0,w'=u.w) (fun a'=>a'=A) (lL ops ws f (k+1)) (b.put (some d) x):=fun w0 hw0=>by
    have h1:=h w0 hw0;rw [lL,if_neg (by simpa using hkw),hd.op] at h1;have hq:qOp P ops (fun w'=>∃u:Lies w0,w'=u.w) k (wpQuiet P ops (fun w'=>∃u:Lies w0,w'=u.w) (fun a'=>a'=A) (lL ops ws f (k+1))) b:=by unfold qOp;simp only [hd.op];exact h1
    obtain ⟨x,hy,hK⟩:=yieldsIn_of_qOp hd.op hq;rw [hd.dst] at hK;exact ⟨x,by rw [<-rp _ _ hno hK,fH hlt],hy,hK⟩
   obtain ⟨x,hx,_,_⟩:=one v brf;have all:∀w0,Bw v w0->YieldsIn P ops (fun w'=>∃u:Lies w0,w'=u.w) o' x b∧wpQuiet P ops (fun w'=>∃u:Lies w0,w'=u.w) (fun a'=>a'=A) (lL ops ws f (k+1)) (b.put (some d) x):=fun w0 hw0=>by
    obtain ⟨x',hx',h1,h2⟩:=one w0 hw0;have:x'=x:=Option.some.inj (hx'.symm.trans hx);subst this;exact ⟨h1,h2⟩
   have hF':Fr ops ws z a A (fun j=>j<k+1∧j∉ws) p (b.put (some d) x):=hF.put hd hs (fun _=>hx) (fun h=>absurd h hkw) (fun _ _=>rfl) (fun j _=>by
    constructor
    ·rintro ⟨h1,h2⟩;by_cases hjk:j=k
     ·exact .inr hjk
     ·exact .inl ⟨by omega,h2⟩
    ·rintro (⟨h1,h2⟩ | rfl)
     ·exact ⟨by omega,h2⟩
     ·exact ⟨by omega,hkw⟩) (by omega)
   have hrec:=sN hH hs f (k+1) (b.put (some d) x) (by omega) hF' (fun w0 hw0=>(all w0 hw0).2);refine ⟨hrec.1,fun i h1 h2 h3=>?_⟩;by_cases hik:i=k
   ·subst hik;exact ⟨o',d,x,b,hd,hx,hF,fun w0 hw0=>(all w0 hw0).1⟩
   ·exact hrec.2 i (by omega) h2 h3
theorem wI {b b':Act} {o:Oper} (slot:∀t:Nat,t∈o.looksAt ops->b.tmps[t]?=b'.tmps[t]?) (hs1:∀cs q,o.op≠.select cs q):execOp b.eval o=execOp b'.eval o:=by
 refine execOp_congr o hs1 fun y hy=>?_;cases y with
 | tmp t=>
  have:=slot t (List.mem_append_left _ (List.mem_filterMap.2 ⟨.tmp t,by simpa using hy,rfl⟩));simp only [Act.eval,Array.getD_eq_getD_getElem?];rw [this]
 | _=>rfl
theorem zx {b b':Act} {o:Oper} (slot:∀t:Nat,t∈o.looksAt ops->b.tmps[t]?=b'.tmps[t]?):Region.wanted o (yielded ops b.tmps)=Region.wanted o (yielded ops b'.tmps):=by
 unfold Region.wanted;cases hg:o.guard with
 | none=>rfl
 | some gw=>
  obtain ⟨g,want⟩:=gw;have:yielded ops b.tmps g=yielded ops b'.tmps g:=by
   unfold yielded;cases ht:(ops[g]?).bind (·.dst) with
   | none=>rfl
   | some t=>
    have:=slot t (by simp [Oper.looksAt,hg,ht]);simp only [Option.bind_some];rw [this]
  simp only [this]
def Closed (ops:Array Oper) (listed:Array Bool):Prop:=∀j oj,ops[j]?=some oj->listed.getD j false=true->∀e∈oj.after,Region.binds .any e=true->listed.getD e.on false=true
theorem Closed.set {listed:Array Bool} {i:Nat} (h:Closed ops listed) (hi:i∈Region.ready .any ops listed):Closed ops (listed.setIfInBounds i true):=by
 obtain ⟨_,oi,hoi,hall⟩:=mem_ready.1 hi;intro j oj hj hl e he hb;by_cases hij:i=j
 ·subst hij;have:oj=oi:=Option.some.inj (hj.symm.trans hoi);subst this;exact getD_set_true (hall e he hb)
 ·rw [getD_set_ne false hij] at hl;exact getD_set_true (h j oj hj hl e he hb)
theorem lz {listed:Array Bool} {i j:Nat} (hi:i∈Region.ready .any ops listed) (hw:Region.waitsFor .any ops i j=true):listed.getD j false=true:=by
 obtain ⟨_,oi,hoi,hall⟩:=mem_ready.1 hi;obtain ⟨o,ho,e,he,hb,hon⟩:=Region.waitsFor_spec hw;have:o=oi:=Option.some.inj (ho.symm.trans hoi);subst this;rw [<-hon];exact hall e he hb
theorem rY {listed:Array Bool} {i j:Nat} (hc:Closed ops listed) (hi:listed.getD i false=true) (hw:Region.waitsFor .any ops i j=true):listed.getD j false=true:=by
 obtain ⟨o,ho,e,he,hb,hon⟩:=Region.waitsFor_spec hw;rw [<-hon];exact hc i o ho hi e he hb
theorem xL {ws:List Nat} {z s:Nat} {listed:Array Bool} (hH:Heads ops ws z s) (hc:Closed ops listed) (hz:z∈Region.ready .any ops listed):∀(k i:Nat),z-i=k->i<z->listed.getD i false=true:=by
 intro k
 induction k using Nat.strongRecOn with
 | _ k ih=>
  intro i hk hi;obtain ⟨o,d,hd⟩:=hH.head i hi;obtain ⟨j,h1,h2,h4⟩:=hd.sink;by_cases hjn:j<z
  ·exact rY hc (ih (z-j) (by omega) j rfl hjn) h4
  ·have h:j=z:=by omega
   subst h;exact lz hz h4
theorem uV (hE:uU ops=true) {listed:Array Bool} {i:Nat} (hi:i<ops.size) (hl:listed.getD i true=false) (hs:listed.size=ops.size):Region.ready .any ops listed≠[]:=by
 have main:∀(k i:Nat),i=k->i<ops.size->listed.getD i true=false->∃j,j∈Region.ready .any ops listed:=by
  intro k
  induction k using Nat.strongRecOn with
  | _ k ih=>
   intro i hik hi hl;by_cases hall:∀e∈(ops[i]'hi).after,Region.binds .any e=true->listed.getD e.on false=true
   ·exact ⟨i,mem_ready.2 ⟨hl,_,Array.getElem?_eq_getElem hi,hall⟩⟩
   ·have ⟨e,he,hb,hn⟩:∃e,e∈(ops[i]'hi).after∧Region.binds .any e=true∧¬listed.getD e.on false=true:=by
     apply Classical.byContradiction;intro hno;exact hall fun e he hb=>Classical.byContradiction fun h=>hno ⟨e,he,hb,h⟩
    have hlt:=zw hE (Array.getElem?_eq_getElem hi) he hb;refine ih e.on (by omega) e.on rfl (by omega) ?_;have:e.on<listed.size:=by omega
    simp [this] at hn |-;exact hn
 obtain ⟨j,hj⟩:=main i i rfl hi hl;intro h0;rw [h0] at hj;cases hj
def unl (ops:Array Oper) (listed:Array Bool):Nat:=(List.range ops.size).countP fun j=>!listed.getD j true
theorem wJ {p q:Nat->Bool}:∀{l:List Nat} {i:Nat},(∀x,q x=true->p x=true)->i∈l->p i=true->q i=false->l.countP q<l.countP p
 | x::l,i,h,hi,hp,hq=>by
  have hle:l.countP q<=l.countP p:=List.countP_mono_left fun x _=>h x;rw [List.countP_cons,List.countP_cons];rcases List.mem_cons.1 hi with rfl | hi
  ·simp only [hp,hq];simp;omega
  ·have:=wJ h hi hp hq;have h2:(if q x=true then 1 else 0)<=(if p x=true then 1 else 0):=by
    by_cases hx:q x=true
    ·simp [hx,h x hx]
    ·simp [hx]
   omega
theorem EB {listed:Array Bool} {i:Nat} (hi:i∈Region.ready .any ops listed) (hs:listed.size=ops.size):unl ops (listed.setIfInBounds i true)<unl ops listed:=by
 obtain ⟨h0,oi,hoi,_⟩:=mem_ready.1 hi;have hlt:=(hpl hoi);refine wJ (i:=i) (fun x hx=>?_) (List.mem_range.2 hlt) (by rw [h0];rfl) ?_
 ·by_cases hix:i=x
  ·subst hix;simp [hs,hlt] at hx
  ·rwa [getD_set_ne true hix] at hx
 ·simp [hs,hlt]
theorem DG {Q:Exit->Act->World->Prop} {listed:Array Bool} {a:Act} {w:World} (h:∀j,j<ops.size->listed.getD j true=true) (hQ:Q .normal a w):∀fuel,wpAny P .any ops Q fuel listed a w:=by
 have hr:Region.ready .any ops listed=[]:=by
  cases hh:Region.ready .any ops listed with
  | nil=>rfl
  | cons x l=>
   have hx:x∈Region.ready .any ops listed:=by rw [hh];exact List.mem_cons_self ..
   obtain ⟨h0,o,ho,_⟩:=mem_ready.1 hx;rw [h x (hpl ho)] at h0;cases h0
 intro fuel;cases fuel with
 | zero=>exact ⟨hr,hQ⟩
 | succ f=>exact ⟨fun _=>hQ,fun i hi=>by rw [hr] at hi;cases hi⟩
theorem qF {listed:Array Bool} {i:Nat} (h:listed.getD i true=false):listed.getD i false=false:=by
 rcases Nat.lt_or_ge i listed.size with h' | h'
 ·simp [h'] at h |-;exact h
 ·simp [Array.getElem?_eq_none h'] at h
theorem Bb {listed:Array Bool} {i:Nat} (h:listed.getD i false=true):listed.getD i true=true:=by
 rcases Nat.lt_or_ge i listed.size with h' | h'
 ·simp [h'] at h |-;exact h
 ·simp [Array.getElem?_eq_none h'] at h
theorem rr {listed:Array Bool} {i:Nat} (hs:i<listed.size):(listed.setIfInBounds i true).getD i false=true:=by
 simp [hs]
def oW (ops:Array Oper) (p:Nat->Value):List Nat->Act->Act
 | [],A=>A
 | c::ws,A=>oW ops p ws (A.put (kJ ops c) (p c))
theorem qG {p:Nat->Value}:∀(ws:List Nat) (A:Act),(oW ops p ws A).defers=A.defers∧(oW ops p ws A).tmps.size=A.tmps.size∧∀d,(∀c∈ws,kJ ops c≠some d)->(oW ops p ws A).tmps[d]?=A.tmps[d]?
 | [],A=>⟨rfl,rfl,fun _ _=>rfl⟩
 | c::ws,A=>by
  obtain ⟨h1,h2,h3⟩:=qG ws (A.put (kJ ops c) (p c));refine ⟨h1.trans (by cases kJ ops c <;> rfl),h2.trans (by cases kJ ops c <;> simp [Act.put]),fun d hd=>?_⟩;rw [oW,h3 d fun c' hc'=>hd c' (List.mem_cons_of_mem _ hc'),dA (hd c (List.mem_cons_self ..))]
theorem xM {p:Nat->Value} {c d:Nat}:∀(ws:List Nat) (A:Act),c∈ws->kJ ops c=some d->d<A.tmps.size->(∀c'∈ws,kJ ops c'=some d->c'=c)->(oW ops p ws A).tmps[d]?=some (p c)
 | c'::ws,A,hc,hd,hlt,hu=>by
  by_cases hin:c∈ws
  ·exact xM ws _ hin hd (by cases kJ ops c' <;> simpa [Act.put] using hlt) (fun c2 h2=>hu c2 (List.mem_cons_of_mem _ h2))
  ·have hcc:=(List.mem_cons.1 hc).resolve_right hin;subst hcc;rw [oW,(qG ws _).2.2 d fun c2 h2 he=>hin (by rw [<-hu c2 (List.mem_cons_of_mem _ h2) he];exact h2),hd];exact fH hlt
def WildAt (P:Program) (o:Oper) (a:Act) (w:World) (K:Value->World->Prop):Prop:=
 (∃x w',(execOp a.eval o).run P w=.ok (.value x) w'∧K x w')∨(∃f args,(execOp a.eval o).run P w=.ok (.enter f args) w∧Calls P f args w fun e w'=>∃x,e=.returned x∧K x w')
theorem WildAt.wp {Q:Exit->Act->World->Prop} {o:Oper} {a b:Act} {w:World} {K:Value->World->Prop} {K':Act->World->Prop} (h:WildAt P o a w K) (he:execOp b.eval o=execOp a.eval o) (hK:∀x w',K x w'->K' (b.put o.dst x) w'):o.wp P b w K' Q:=by
 unfold Oper.wp;rw [he];rcases h with ⟨x,w',h1,h2⟩ | ⟨f,args,h1,h2⟩
 ·rw [h1];exact hK x w' h2
 ·rw [h1];refine h2.mono ?_;rintro e w' ⟨x,rfl,hx⟩;exact hK x w' hx
theorem DH {Q:Exit->Act->World->Prop} {z:Nat} (hch:∀k,z<=k->k+1<ops.size->Region.waitsFor .any ops (k+1) k=true):∀(n k:Nat) (listed:Array Bool) (b:Act) (w:World),n=ops.size-k->z<=k->k<=ops.size->uU ops=true->listed.size=ops.size->(∀j,j<k->listed.getD j false=true)->(∀j,k<=j->j<ops.size->listed.getD j true=false)->
 wpList P ops Q (ops.toList.drop k) b w->∀fuel,n<=fuel->wpAny P .any ops Q fuel listed b w:=by
 intro n
 induction n with
 | zero=>
  intro k listed b w hn hz hk hE hs hl hu h fuel _;have hk':ops.toList.drop k=[]:=by rw [List.drop_eq_nil_iff];simp;omega
  rw [hk'] at h;exact DG (fun j hj=>Bb (hl j (by omega))) h fuel
 | succ n ih=>
  intro k listed b w hn hz hk hE hs hl hu h fuel hf;have hklt:k<ops.size:=by omega
  obtain ⟨ok,hok⟩:∃o,ops[k]?=some o:=⟨_,Array.getElem?_eq_getElem hklt⟩;have hd:ops.toList.drop k=ok::ops.toList.drop (k+1):=by
   rw [List.drop_eq_getElem_cons (by simpa using hklt)];congr 1;have:=Array.getElem?_eq_getElem hklt;rw [hok] at this;simpa using (Option.some.inj this).symm
  rw [hd] at h;cases fuel with
  | zero=>omega
  | succ fuel=>
   refine ⟨fun h0=>absurd h0 (uV hE hklt (hu k nle hklt) hs),fun i hi=>?_⟩;obtain ⟨hli,oi,hoi,_⟩:=mem_ready.1 hi;have hilt:=(hpl hoi);have hik:i=k:=by
    rcases Nat.lt_trichotomy i k with hlt | heq | hgt
    ·rw [Bb (hl i hlt)] at hli;cases hli
    ·exact heq
    ·have h1:=lz hi (show Region.waitsFor .any ops i (i-1)=true by
      have:=hch (i-1) (by omega) (by omega);rwa [show i-1+1=i by omega] at this)
     have h2:=qF (hu (i-1) (by omega) (by omega));rw [h1] at h2;cases h2
   subst hik;have h3:wpOp P ops Q i (fun a' w'=>wpList P ops Q (ops.toList.drop (i+1)) a' w') b w:=by
    unfold wpOp;simp only [hok];exact h
   refine wpOp_mono (fun a' w' hq=>ih (i+1) _ a' w' (by omega) (by omega) (by omega) hE (by simpa using hs) (fun j hj=>?_) (fun j hj hj'=>?_) hq fuel (by omega)) h3
   ·by_cases hij:i=j
    ·subst hij;exact rr (by omega)
    ·rw [getD_set_ne false hij];exact hl j (by omega)
   ·rw [getD_set_ne true (by omega)];exact hu j (by omega) hj'
theorem DI {Q:Exit->Act->World->Prop} {ws:List Nat} {z s:Nat} {v:World} {a A:Act} {p0:Nat->Value} {G:(Nat->Bool)->(Nat->Value)->World->Prop} (hH:Heads ops ws z s) (hws:∀c∈ws,c<z) (hs:a.tmps.size=s)
 (hA:Fr ops ws z a A (fun j=>j<z∧j∉ws) p0 A) (hL:∀i,i<z->i∉ws->∃o d x b',Head ops ws z s i o d∧A.tmps[d]?=some x∧Fr ops ws z a A (fun j=>j<i∧j∉ws) p0 b'∧∀w0,Bw v w0->YieldsIn P ops (fun w'=>∃u:Lies w0,w'=u.w) o x b')
 (hGk:∀S p w w',G S p w->Bw w w'->G S p w') (hGb:∀S p w,G S p w->Bw v w) (hGs:∀S S' p p' w,(∀c∈ws,S' c=S c∧(S c=true->p' c=p c))->G S p w->G S' p' w)
 (hW:∀c∈ws,∀o,ops[c]?=some o->∀S p w,G S p w->S c=false->(∀j∈ws,Region.waitsFor .any ops c j=true->S j=true)->WildAt P o (oW ops p ws A) w fun x w'=>G (fun j=>j == c || S j) (fun j=>if j=c then x else p j) w')
 (hQ:∀S p w,(∀c∈ws,S c=true)->G S p w->wpList P ops Q (ops.toList.drop z) (oW ops p ws A) w):∀(fuel:Nat) (listed:Array Bool) (b:Act) (p:Nat->Value) (w:World),unl ops listed<=fuel->listed.size=ops.size->Closed ops listed->(∀j,z<=j->j<ops.size->listed.getD j true=false)->
  Fr ops ws z a A (fun j=>listed.getD j false=true) p b->G (fun j=>listed.getD j false) p w->wpAny P .any ops Q fuel listed b w:=by
 have hz:=hH.size;have full:∀(listed:Array Bool) (b:Act) (p:Nat->Value) (o:Oper) (i:Nat),ops[i]?=some o->(∀j,j<z->∀t,kJ ops j=some t->t∈o.looksAt ops->listed.getD j false=true)->Fr ops ws z a A (fun j=>listed.getD j false=true) p b->∀t:Nat,t∈o.looksAt ops->b.tmps[t]?=(oW ops p ws A).tmps[t]?:=by
  intro listed b p o i ho hl hF t ht;obtain ⟨_,k2,k3⟩:=qG (ops:=ops) (p:=p) ws A;by_cases hj:∃j,j<z∧kJ ops j=some t
  ·obtain ⟨j,hj,hd⟩:=hj;obtain ⟨oj,dj,hdj⟩:=hH.head j hj;have hdt:=Option.some.inj (hdj.is.symm.trans hd);subst hdt;by_cases hjw:j∈ws
   ·rw [hF.wild dj j hj (hl j hj dj hd ht) hjw hd,xM ws A hjw hd (by rw [hA.size,hs];exact hdj.lt) (fun c' hc' he=>Classical.byContradiction fun hne=>hdj.apart c' (hws c' hc') hne he)]
   ·rw [hF.new dj j hj (hl j hj dj hd ht) hjw hd,k3 dj fun c hc he=>hdj.apart c (hws c hc) (fun hcj=>hjw (hcj ▸ hc)) he]
  ·have:∀j,j<z->kJ ops j≠some t:=fun j h1 h2=>hj ⟨j,h1,h2⟩;rw [hF.old t fun j h1 _=>this j h1,k3 t fun c hc=>this c (hws c hc),hA.old t fun j h1 _=>this j h1]
 intro fuel
 induction fuel with
 | zero=>
  intro listed b p w hf hls hc hn hF hG;have:0<unl ops listed:=List.countP_pos_iff.2 ⟨z,List.mem_range.2 (by omega),by rw [hn z nle hz];rfl⟩;omega
 | succ fuel ih=>
  intro listed b p w hf hls hc hn hF hG;have set_at:∀i,i<z->i∈Region.ready .any ops listed->(∀j,j<z->((listed.setIfInBounds i true).getD j false=true↔listed.getD j false=true∨j=i)):=fun i hi hr j hj=>by
   by_cases hij:i=j
   ·subst hij;simp [rr (listed:=listed) (i:=i) (by omega)]
   ·rw [getD_set_ne false hij];exact ⟨.inl,fun h=>h.resolve_right (Ne.symm hij)⟩
  have step:∀i∈Region.ready .any ops listed,wpOp P ops Q i (wpAny P .any ops Q fuel (listed.setIfInBounds i true)) b w:=fun i hi=>by
   have hun:=EB hi hls;obtain ⟨hli,oi,hoi,_⟩:=mem_ready.1 hi;have hlt:=(hpl hoi);by_cases hin:i<z
   ·by_cases hiw:i∈ws
    ·obtain ⟨o,d,hd⟩:=hH.head i hin;have ho:=Option.some.inj (hoi.symm.trans hd.op);subst ho;have slots:=full listed b p oi i hoi (fun j hj t hdt ht=>lz hi (hd.looks j t hj hdt ht).2.1) hF;have hw:=hW i hiw oi hoi _ p w hG (qF hli) (fun j hj hwt=>lz hi hwt);unfold wpOp;simp only [hoi];rw [if_pos (by simp [Region.wanted,hd.guard hiw])];refine .inl (hw.wp (wI slots fun cs q=>Region.noSelect_spec hH.sel i oi cs q hoi) fun x w' hG'=>?_);rw [hd.dst];refine ih _ _ (fun j=>if j=i then x else p j) w' (by omega) (by simpa using hls) (hc.set hi) (fun j hj hj'=>by rw [getD_set_ne true (by omega)];exact hn j hj hj') (hF.put hd hs (fun h=>absurd hiw h) (fun _=>by simp) (fun j hj=>by simp [hj]) (set_at i hin hi) hin) ?_;refine hGs _ _ _ _ _ (fun c hcw=>⟨?_,fun _=>rfl⟩) hG';by_cases hci:c=i
     ·subst hci;simp [rr (listed:=listed) (i:=c) (by omega)]
     ·rw [getD_set_ne false (Ne.symm hci)];simp [hci]
    ·obtain ⟨o,d,x,b',hd,hx,hF',hy⟩:=hL i hin hiw;have slot:∀t:Nat,t∈o.looksAt ops->b.tmps[t]?=b'.tmps[t]?:=fun t ht=>by
      by_cases hj:∃j,j<z∧kJ ops j=some t
      ·obtain ⟨j,hj,hdt⟩:=hj;obtain ⟨h1,h2,h3⟩:=hd.looks j t hj hdt ht;have h4:=h3.resolve_left hiw;rw [hF.new t j hj (lz hi h2) h4 hdt,hF'.new t j hj ⟨h1,h4⟩ h4 hdt]
      ·have:∀j,j<z->kJ ops j≠some t:=fun j h1 h2=>hj ⟨j,h1,h2⟩;rw [hF.old t fun j h1 _=>this j h1,hF'.old t fun j h1 _=>this j h1]
     have hyy:=(hy w (hGb _ _ _ hG)).of_same (wI slot fun cs q=>Region.noSelect_spec hH.sel i o cs q hd.op) (zx slot);have hq:=YieldsIn.qOp (K:=fun a'=>a'=b.put o.dst x) hd.op hyy rfl;refine wpOp_of_qOp (C:=fun w'=>∃u:Lies w,w'=u.w) ⟨⟨w,brf⟩,rfl⟩ (fun a' w' hw' ha'=>?_) hq;obtain ⟨u,rfl⟩:=hw';rw [ha',hd.dst];refine ih _ _ p u.w (by omega) (by simpa using hls) (hc.set hi) (fun j hj hj'=>by rw [getD_set_ne true (by omega)];exact hn j hj hj') (hF.put hd hs (fun _=>hx) (fun h=>absurd h hiw) (fun _ _=>rfl) (set_at i hin hi) hin) ?_;refine hGs _ _ _ _ _ (fun c hcw=>⟨?_,fun _=>rfl⟩) (hGk _ _ _ _ hG u.h);rw [getD_set_ne false (show i≠c from fun hic=>hiw (hic ▸ hcw))]
   ·have hiz:i=z:=by
     by_cases hgt:z<i
     ·have h1:=lz hi (show Region.waitsFor .any ops i (i-1)=true by
       have:=hH.chain (i-1) (by omega) (by omega);rwa [show i-1+1=i by omega] at this)
      have h2:=qF (hn (i-1) (by omega) (by omega));rw [h1] at h2;cases h2
     ·omega
    subst hiz;have hall:=fun j (hj:j<i)=>xL hH hc hi _ j rfl hj;have hb:b=oW ops p ws A:=by
     obtain ⟨k1,k2,k3⟩:=qG (ops:=ops) (p:=p) ws A;have ht:b.tmps=(oW ops p ws A).tmps:=by
      apply Array.ext_getElem?;intro t;by_cases hj:∃j,j<i∧kJ ops j=some t
      ·obtain ⟨j,hj,hd⟩:=hj;obtain ⟨oj,dj,hdj⟩:=hH.head j hj;have hdt:=Option.some.inj (hdj.is.symm.trans hd);subst hdt;by_cases hjw:j∈ws
       ·rw [hF.wild dj j hj (hall j hj) hjw hd,xM ws A hjw hd (by rw [hA.size,hs];exact hdj.lt) (fun c' hc' he=>Classical.byContradiction fun hne=>hdj.apart c' (hws c' hc') hne he)]
       ·rw [hF.new dj j hj (hall j hj) hjw hd,k3 dj fun c hc he=>hdj.apart c (hws c hc) (fun hcj=>hjw (hcj ▸ hc)) he]
      ·have:∀j,j<i->kJ ops j≠some t:=fun j h1 h2=>hj ⟨j,h1,h2⟩;rw [hF.old t fun j h1 _=>this j h1,k3 t fun c hc=>this c (hws c hc),hA.old t fun j h1 _=>this j h1]
     have hd:=hF.defers.trans (hA.defers.symm.trans k1.symm);generalize oW ops p ws A=B at ht hd;cases b;cases B
     simp_all
    have h2:=hQ (fun j=>listed.getD j false) p w (fun c hcw=>hall c (hws c hcw)) hG;rw [<-hb] at h2;have htl:=DH (P:=P) (Q:=Q) hH.chain (ops.size-i) i listed b w rfl nle (by omega) hH.edges hls hall hn h2 (fuel+1) (by
     have hcount:ops.size-i<=unl ops listed:=by
      have:(List.range' i (ops.size-i)).countP (fun j=>!listed.getD j true)<=(List.range ops.size).countP (fun j=>!listed.getD j true):=by
       refine List.Sublist.countP_le ?_;rw [List.range_eq_range'];have e:List.range' 0 ops.size=List.range' 0 i++List.range' i (ops.size-i):=by
        have h6:=List.range'_append_1 (s:=0) (m:=i) (n:=ops.size-i);rw [Nat.zero_add,show i+(ops.size-i)=ops.size by omega] at h6;exact h6.symm
       rw [e];exact List.sublist_append_right _ _
      have h5:(List.range' i (ops.size-i)).countP (fun j=>!listed.getD j true)=ops.size-i:=by
       rw [List.countP_eq_length.2]
       ·simp
       ·intro j hj;rw [List.mem_range'_1] at hj;rw [hn j hj.1 (by omega)];rfl
      unfold unl;omega
     omega)
    exact htl.2 i hi
  exact ⟨fun h0=>absurd h0 (uV hH.edges hz (hn z nle hz) hls),step⟩
theorem zy:Closed ops (Array.replicate ops.size false):=fun j oj _ hl=>by
 have:(Array.replicate ops.size false).getD j false=false:=by
  rcases Nat.lt_or_ge j ops.size with h | h
  ·simp [h]
  ·simp [h]
 rw [this] at hl;cases hl
theorem Bc {ws:List Nat} {z:Nat} {a A:Act} {S:Nat->Prop} {p:Nat->Value} (hS:∀j,j<z->¬S j):Fr ops ws z a A S p a:=
 ⟨rfl,rfl,fun _ _=>rfl,fun _ j hj hj2=>absurd hj2 (hS j hj),fun _ j hj hj2=>absurd hj2 (hS j hj)⟩
theorem qR (m j:Nat):(Array.replicate m false).getD j false=false:=by
 rcases Nat.lt_or_ge j m with h | h
 ·simp [h]
 ·simp [h]
theorem Fp (listed:Array Bool):unl ops listed<=ops.size:=by
 have:=List.countP_le_length (p:=fun j=>!listed.getD j true) (l:=List.range ops.size);simpa [unl] using this
theorem tw {id:Nat} {Q:Exit->Act->World->Prop} {a:Act} {w:World} {l:List Oper} (ws:List Nat) (z:Nat) (A:Act) (T:List Oper) (G:(Nat->Bool)->(Nat->Value)->World->Prop) (hm:P.follows .mixedOrders=true) (hB:wH l.toArray ws z a.tmps.size=true) (hws:ws.all (fun c=>decide (c<z))=true) (hT:l.drop z=T)
 (h:∀w0,Bw w w0->wpQuiet P l.toArray (fun w'=>∃u:Lies w0,w'=u.w) (fun a'=>a'=A) (lL l.toArray ws z 0) a)
 (hG0:G (fun _=>false) (fun _=>undef) w.drew) (hGk:∀S p w w',G S p w->Bw w w'->G S p w') (hGb:∀S p w',G S p w'->Bw w w') (hGs:∀S S' p p' w,(∀c∈ws,S' c=S c∧(S c=true->p' c=p c))->G S p w->G S' p' w)
 (hW:∀c∈ws,∀o,l[c]?=some o->∀S p w',G S p w'->S c=false->(∀j∈ws,Region.waitsFor .any l.toArray c j=true->S j=true)->WildAt P o (oW l.toArray p ws A) w' fun x w''=>G (fun j=>j == c || S j) (fun j=>if j=c then x else p j) w'')
 (hQ:∀S p w',(∀c∈ws,S c=true)->G S p w'->wpList P l.toArray Q T (oW l.toArray p ws A) w'):(Code.region id l.toArray true).wp P Q a w:=by
 have hH:=Ao hB;have hws':∀c∈ws,c<z:=fun c hc=>by simpa using List.all_eq_true.1 hws c hc
 have hx:=sN (v:=w.drew) (P:=P) (ops:=l.toArray) (p:=fun _=>undef) hH rfl z 0 a (by omega) (Bc fun j _ h=>by omega) (fun w0 hw0=>h w0 (Below.trans ((brf).drew) hw0));refine wp_region_any hm ?_;have hz:=hH.size;refine DI (P:=P) (Q:=Q) (v:=w.drew) (G:=G) hH hws' rfl hx.1 (fun i hi hw=>hx.2 i (Nat.zero_le _) hi hw) hGk (fun S p w' hg=>?_) hGs (fun c hc o ho=>hW c hc o (by simpa using ho)) (fun S p w' h1 h2=>by rw [show l.toArray.toList.drop z=T from hT];exact hQ S p w' h1 h2) _ _ a (fun _=>undef) _ (Fp _) (by simp) zy ?_ (Bc fun j _ hj=>by rw [qR] at hj;cases hj) ?_
 ·have hb:=hGb S p w' hg;exact ⟨hb.os,hb.tape,hb.output,hb.size,hb.block⟩
 ·intro j _ hj;simp only [List.size_toArray] at hj |-;simp [hj]
 ·refine hGs _ _ _ _ _ (fun c _=>⟨qR _ _,fun h=>rfl⟩) hG0
theorem uW {id:Nat} {Q:Exit->Act->World->Prop} {a:Act} {w:World} {l:List Oper} (ws:List Nat) (z:Nat) (A:Act) (oS:Oper) (G:(Nat->Bool)->(Nat->Value)->World->Prop) (hm:P.follows .mixedOrders=true) (hB:wH l.toArray ws z a.tmps.size=true) (hws:ws.all (fun c=>decide (c<z))=true) (hoS:l.drop z=[oS])
 (h:∀w0,Bw w w0->wpQuiet P l.toArray (fun w'=>∃u:Lies w0,w'=u.w) (fun a'=>a'=A) (lL l.toArray ws z 0) a)
 (hG0:G (fun _=>false) (fun _=>undef) w.drew) (hGk:∀S p w w',G S p w->Bw w w'->G S p w') (hGb:∀S p w',G S p w'->Bw w w') (hGs:∀S S' p p' w,(∀c∈ws,S' c=S c∧(S c=true->p' c=p c))->G S p w->G S' p' w)
 (hW:∀c∈ws,∀o,l[c]?=some o->∀S p w',G S p w'->S c=false->(∀j∈ws,Region.waitsFor .any l.toArray c j=true->S j=true)->WildAt P o (oW l.toArray p ws A) w' fun x w''=>G (fun j=>j == c || S j) (fun j=>if j=c then x else p j) w'')
 (hQ:∀S p w',(∀c∈ws,S c=true)->G S p w'->wpList P l.toArray Q [oS] (oW l.toArray p ws A) w'):(Code.region id l.toArray true).wp P Q a w:=by
 refine tw ws z A (l.drop z) G hm hB hws rfl h hG0 hGk hGb hGs hW (fun S p w' h1 h2=>?_);rw [show l.drop z=[oS] from hoS];exact hQ S p w' h1 h2
theorem lC {id:Nat} {Q:Exit->Act->World->Prop} {a:Act} {w:World} {l:List Oper} (c z g d:Nat) (A:Act) (oC oS:Oper) (R:Value->World->Prop) (hm:P.follows .mixedOrders=true) (hB:wH l.toArray [c] z a.tmps.size=true) (hcz:decide (c<z)=true) (hoC:l[c]?=some oC) (hoS:l.drop z=[oS]) (hd:oC.dst=some d) (hq:lL l.toArray [c] z 0=l.take c++(l.drop (c+1)).take g)
 (h:∀w0,Bw w w0->wpQuiet P l.toArray (fun w'=>∃u:Lies w0,w'=u.w) (fun a'=>a'=A) (l.take c++(l.drop (c+1)).take g) a)
 (hR:∀x w1 w2,R x w1->Bw w1 w2->R x w2)
 (hC:∀y w',Bw w w'->WildAt P oC (A.put (some d) y) w' fun x w''=>R x w''∧Bw w' w'')
 (hQ:∀x w',Bw w w'->R x w'->wpList P l.toArray Q [oS] (A.put (some d) x) w'):(Code.region id l.toArray true).wp P Q a w:=by
 have hdd:kJ l.toArray c=some d:=by
  rw [kJ,show l.toArray[c]?=some oC by simpa using hoC];exact hd
 refine uW [c] z A oS (fun S p w'=>Bw w w'∧(S c=true->R (p c) w')) hm hB (by simpa using hcz) hoS (by rw [hq];exact h) ⟨(brf).drew,fun hh=>by cases hh⟩ (fun S p w1 w2 hg hb=>⟨bst hg.1 hb,fun hS=>hR _ _ _ (hg.2 hS) hb⟩) (fun S p w' hg=>hg.1) (fun S S' p p' w' hss hg=>?_) (fun c' hc' o ho S p w' hg hS hw=>?_) (fun S p w' hS hg=>?_)
 ·obtain ⟨h1,h2⟩:=hss c (by simp);exact ⟨hg.1,fun h3=>by rw [h1] at h3;rw [h2 h3];exact hg.2 h3⟩
 ·have:c'=c:=by simpa using hc'
  subst this;have:o=oC:=Option.some.inj (ho.symm.trans hoC);subst this;have h1:=hC (p c') w' hg.1;simp only [oW,hdd];rcases h1 with ⟨x,w2,e1,e2,e3⟩ | ⟨f,args,e1,e2⟩
  ·exact .inl ⟨x,w2,e1,bst hg.1 e3,fun _=>by simpa using e2⟩
  ·refine .inr ⟨f,args,e1,e2.mono ?_⟩;rintro e w2 ⟨x,rfl,e2,e3⟩;exact ⟨x,rfl,bst hg.1 e3,fun _=>by simpa using e2⟩
 ·have:=hQ (p c) w' hg.1 (hg.2 (hS c (by simp)));simpa only [oW,hdd] using this
theorem ny {id:Nat} {Q:Exit->Act->World->Prop} {a:Act} {w:World} {l:List Oper} (c d:Nat) (A:Act) (oC oS:Oper) (Z:Obj) (hm:P.follows .mixedOrders=true) (hB:wH l.toArray [c] (c+1) a.tmps.size=true) (hoC:l[c]?=some oC) (hoS:l.drop (c+1)=[oS]) (hd:oC.dst=some d)
 (hal:∀(b:Act) (w:World),(execOp b.eval oC).run P w=.ok (.value (PT w.heap.size 0)) (w.alloc Z))
 (hq:lL l.toArray [c] (c+1) 0=l.take c) (h:∀w0,Bw w w0->wpQuiet P l.toArray (fun w'=>∃u:Lies w0,w'=u.w) (fun a'=>a'=A) (l.take c) a)
 (hQ:∀pb w',w.heap.size<=pb->Bw w w'->w'.heap[pb]?=some Z->wpList P l.toArray Q [oS] (A.put (some d) (PT pb 0)) w'):(Code.region id l.toArray true).wp P Q a w:=by
 refine lC c (c+1) 0 d A oC oS (fun x w'=>∃pb,x=PT pb 0∧w.heap.size<=pb∧w'.heap[pb]?=some Z) hm hB (by simp) hoC hoS hd (by rw [hq];simp) (by simpa using h) ?_ (fun y w' hw=>?_) ?_
 ·rintro x w1 w2 ⟨pb,rfl,h1,h2⟩ hb;exact ⟨pb,rfl,h1,ae h2 hb (hpl h2)⟩
 ·exact .inl ⟨_,_,hal _ _,⟨w'.heap.size,rfl,hw.size,F6 w' Z⟩,(brf).alloc nle _⟩
 ·rintro x w' hw ⟨pb,rfl,h1,h2⟩;exact hQ pb w' h1 hw h2
end
end Go.Proofs.YtjdmhibnhpdjaaaGreat
