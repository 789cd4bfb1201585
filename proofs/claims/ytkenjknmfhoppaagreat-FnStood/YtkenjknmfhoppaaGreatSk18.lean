import Derived.Test.YtkenjknmfhoppaaGreatSk17
import Derived.Test.YtkenjknmfhoppaaGreatSk16
namespace Go.Proofs.YtkenjknmfhoppaaGreat
open Go.RowKit
set_option linter.unusedVariables false
set_option maxHeartbeats 6400000
set_option maxRecDepth 20000
def ex (zs:List Int):List Value:=zs.map (Value.int .u8)
theorem Cj {e:TypeId} {w:World} {g base:Nat} {zs:List Int} (h:Blk e w g zs) (hb:base<=g) (hl:zs.length<=1048576):w.ownsRow base e 1 (SL g zs.length zs.length) zs.length (ex zs):=
 ⟨by simp [ex],.inr ⟨g,zs.length,(zs.map (Value.int .u8)).toArray,rfl,hb,h,nle,by unfold maxLen;omega,by simp,by simp [ex,List.take_of_length_le]⟩⟩
theorem wL (zs:List Int):∀u∈ex zs,u.oneCell'=true:=vY zs
theorem Byt.rowC {w:World} {a:Option Addr} {len:Nat} {zs:List Int} (h:Byt w a len zs):RowC w a len 1 (ex zs):=by
 obtain ⟨h1,h2,h3⟩:=h;refine ⟨by simp [ex,h1],?_⟩;rcases h3 with h3 | ⟨b,off,rfl,hb,hc⟩
 ·exact .inl h3
 ·refine .inr ⟨b,off,rfl,hb,fun i v hv=>?_⟩;have hi:i<len:=by
   have:=(List.getElem?_eq_some_iff.1 hv).1;simpa [ex,h1] using this
  rw [hc i hi];simp only [ex,List.getElem?_map] at hv;cases hz:zs[i]? with
  | none=>simp [hz] at hv
  | some z=>simpa [hz] using hv
theorem Byt.addr {w:World} {a:Option Addr} {len:Nat} {zs:List Int} (h:Byt w a len zs) (hl:0<len):(a=none->len=0)∧∀q,a=some q->q.spot=none:=by
 rcases h.2.2 with h3 | ⟨b,off,rfl,hb,hc⟩
 ·omega
 ·exact ⟨fun h=>(by cases h),fun q hq=>by cases hq;rfl⟩
def tM (p:PtrM) (gm cm gr cr:Nat):PtrM:=⟨some (AD gm 0),cm,some (AD gr 0),cr,p.a1,p.c1,p.a2,p.c2,p.a3,p.c3⟩
def pK (p:PtrM) (a1:Option Addr) (c1:Nat) (a2:Option Addr) (c2:Nat) (a3:Option Addr) (c3:Nat):PtrM:=⟨p.am,p.cm,p.ar,p.cr,a1,c1,a2,c2,a3,c3⟩
theorem KOwn.gb {base r:Nat} {w w':World} {v:Value} {k:KM} (h:KOwn base w v k) (hg:w.grownBy w' (some r)) (hr:r<base):KOwn base w' v k:=by
 obtain ⟨g1,c1,g2,c2,g3,c3,rfl,o1,o2,o3⟩:=h;exact ⟨g1,c1,g2,c2,g3,c3,rfl,aG o1 hg hr,aG o2 hg hr,aG o3 hg hr⟩
theorem KOwn.open {base:Nat} {w:World} {v:Value} {k:KM} (h:KOwn base w v k):∃a1 c1 a2 c2 a3 c3,∀p,v=.agg (kA (pK p a1 c1 a2 c2 a3 c3) k):=by
 obtain ⟨g1,c1,g2,c2,g3,c3,rfl,o1,o2,o3⟩:=h;exact ⟨some (AD g1 0),c1,some (AD g2 0),c2,some (AD g3 0),c3,fun p=>rfl⟩
def KRows (base:Nat) (w:World) (q:PtrM) (k:KM):Prop:=
 w.ownsRow base 127 6 (.slice q.a1 k.i.es.length q.c1) k.i.es.length (aO k.i.es)∧w.ownsRow base 127 6 (.slice q.a2 k.d.es.length q.c2) k.d.es.length (aO k.d.es)∧w.ownsRow base 127 6 (.slice q.a3 k.p.es.length q.c3) k.p.es.length (aO k.p.es)
theorem KRows.gb {base r:Nat} {w w':World} {q:PtrM} {k:KM} (h:KRows base w q k) (hg:w.grownBy w' (some r)) (hr:r<base):KRows base w' q k:=
 ⟨aG h.1 hg hr,aG h.2.1 hg hr,aG h.2.2 hg hr⟩
theorem KRows.set {base pb:Nat} {w w':World} {q:PtrM} {k:KM} {cur:Array Value} {T:TypeId} {f:Nat × Nat} (h:KRows base w q k) (hp:w.heap[pb]?=some (.cells cur T f)) (hT:T≠127) (hg:w.grownBy w' (some pb)):KRows base w' q k:=
 ⟨dV h.1 hp hT hg,dV h.2.1 hp hT hg,dV h.2.2 hp hT hg⟩
theorem KRows.keep {base:Nat} {w w':World} {q:PtrM} {k:KM} (h:KRows base w q k) (hb:Bw w w'):KRows base w' q k:=
 ⟨aj h.1 hb,aj h.2.1 hb,aj h.2.2 hb⟩
theorem jq {base:Nat} {w:World} {t:TlbM} {a:Option Addr} {c:Nat} (ho:w.ownsRow base 127 6 (.slice a t.es.length c) t.es.length (aO t.es)) (hk:fP t):TlbAt w (.agg #[VI t.sets,VI t.ways,.slice a t.es.length c]) t:=by
 have hr:=dM ho;rcases ho.2 with ⟨h2,h3⟩ | ⟨g',cap',cur,h2,hb,hg,hc1,hc2,_⟩
 ·simp only [Value.slice.injEq] at h2;obtain ⟨rfl,h4,rfl⟩:=h2;exact ⟨none,0,rfl,hr,hk.1,hk.2.1,hk.2.2.1,hk.2.2.2,by omega,by omega,fun _=>⟨h4,rfl⟩,fun q hq=>(by cases hq)⟩
 ·simp only [Value.slice.injEq] at h2;obtain ⟨rfl,_,rfl⟩:=h2;exact ⟨some (AD g' 0),_,rfl,hr,hk.1,hk.2.1,hk.2.2.1,hk.2.2.2,hc1,by unfold maxLen at hc2;omega,(by intro h;cases h),(by intro q hq;cases hq;rfl)⟩
theorem KRows.at {base:Nat} {w:World} {q:PtrM} {k:KM} (h:KRows base w q k) (hk:kOk k):KAt w (.agg (kA q k)) k:=
 ⟨_,_,_,_,_,_,rfl,jq h.1 hk.1,jq h.2.1 hk.2.1,jq h.2.2 hk.2.2⟩
theorem dK {base size n c:Nat} {e:TypeId} {w:World} {a:Option Addr} {cs:List Value} (h:w.ownsRow base e size (.slice a n c) n cs) (q:Addr) (hq:a=some q):base<=q.block∧q.block<w.heap.size:=by
 subst hq;exact (bI h).2
theorem KRows.ptrs {base:Nat} {w:World} {p:PtrM} {k:KM} (h:KRows base w p k) (q:Addr) (hq:p.a1=some q∨p.a2=some q∨p.a3=some q):base<=q.block∧q.block<w.heap.size:=by
 rcases hq with hq | hq | hq
 ·exact dK h.1 q hq
 ·exact dK h.2.1 q hq
 ·exact dK h.2.2 q hq
theorem zZ {B:Nat} {p:PtrM} {a1 a2 a3:Option Addr} {c1 c2 c3:Nat} (h:∀q,(a1=some q∨a2=some q∨a3=some q)->B<=q.block):From B p (pK p a1 c1 a2 c2 a3 c3):=fun q hq=>by
 simp only [aV,pK,List.mem_cons,List.not_mem_nil,or_false] at hq;rcases hq with hq | hq | hq | hq | hq
 ·exact .inl (by simp [aV,hq])
 ·exact .inl (by simp [aV,hq])
 ·exact .inr (h q (.inl hq.symm))
 ·exact .inr (h q (.inr (.inl hq.symm)))
 ·exact .inr (h q (.inr (.inr hq.symm)))
theorem Fg {B:Nat} {p:PtrM} {a1 a2 a3:Option Addr} {c1 c2 c3:Nat} (hp:∀q,some q∈aV p->q.block<B) (h:∀q,(a1=some q∨a2=some q∨a3=some q)->q.block<B):∀q,some q∈aV (pK p a1 c1 a2 c2 a3 c3)->q.block<B:=fun q hq=>by
 simp only [aV,pK,List.mem_cons,List.not_mem_nil,or_false] at hq;rcases hq with hq | hq | hq | hq | hq
 ·exact hp q (by simp [aV,hq])
 ·exact hp q (by simp [aV,hq])
 ·exact h q (.inl hq.symm)
 ·exact h q (.inr (.inl hq.symm))
 ·exact h q (.inr (.inr hq.symm))
theorem KOwn.rows {base:Nat} {w:World} {v:Value} {k:KM} (h:KOwn base w v k):∃a1 c1 a2 c2 a3 c3,∀p,v=.agg (kA (pK p a1 c1 a2 c2 a3 c3) k)∧KRows base w (pK p a1 c1 a2 c2 a3 c3) k:=by
 obtain ⟨g1,c1,g2,c2,g3,c3,rfl,o1,o2,o3⟩:=h;exact ⟨some (AD g1 0),c1,some (AD g2 0),c2,some (AD g3 0),c3,fun p=>⟨rfl,o1,o2,o3⟩⟩
theorem KAt.ok {w:World} {v:Value} {k:KM} (h:KAt w v k):kOk k:=by
 obtain ⟨a1,c1,a2,c2,a3,c3,rfl,h1,h2,h3⟩:=h;exact ⟨h1.ok,h2.ok,h3.ok⟩
theorem ui (p q:PtrM) (h:HartM) (k:KM):iI (ak p h) 12 (kA q k).toList=ak (pK p q.a1 q.c1 q.a2 q.c2 q.a3 q.c3) (withK h k):=by
 simp [iI,ak,kA,pK,withK]
theorem wM (p:PtrM) (k:KM):(kA p k).all (·.oneCell')=true:=by
 simp [kA,Value.oneCell']
theorem kI:(Tryz.prog.info? 41).map (·.size)=some 9:=by kernel_rfl
theorem za (p:PtrM) (h:HartM) (w:World) (hi:HartIn w p h) (hm0:0<h.mem.length) (hm1:h.mem.length<=1048576) (hr1:h.regs.length<=1048576):
 Calls Tryz.prog 50 #[.agg (ak p h)] w fun e w'=>(∃p',e=.returned (.agg (ak p' h))∧HartIn w' p' h∧∀q,some q∈aV p'->w.heap.size<=q.block)∧Bw w w':=by
 have HI:=hid hi;have HB:=hid hi.mem.rowC;have HBa:Hid ((p.am=none->h.mem.length=0∧p.cm=0)∧∀q,p.am=some q->q.spot=none):=⟨fun hh=>absurd ((hi.mem.addr hm0).1 hh) (by omega),(hi.mem.addr hm0).2⟩;have HR:=hid hi.regs;have HRa:=hid hi.rega;have HK:=hid hi.ks;have HZ:=hid hi.mem.2.1;have HP:Hid (∀gm cm gr cr,((ak p h).setIfInBounds 0 (SL gm h.mem.length cm)).setIfInBounds 1 (SL gr h.regs.length cr)=ak (tM p gm cm gr cr) h):=fun gm cm gr cr=>rfl;have hsz:=eI p h;have g0:(ak p h)[0]?=some (.slice p.am h.mem.length p.cm):=rfl;have g1:(ak p h)[1]?=some (.slice p.ar h.regs.length p.cr):=rfl;have HO:=hid (fT p h);have HKp:Hid (∀x y,((((ak p h).setIfInBounds 0 x).setIfInBounds 1 y).toList.drop 12).take 9=(kA p h.k).toList):=fun x y=>by simp [ak,kA]
 generalize ak p h=C at *;obtain ⟨M,hM⟩:∃M,h.mem.length=M:=⟨_,rfl⟩;obtain ⟨N,hN⟩:∃N,h.regs.length=N:=⟨_,rfl⟩;rw [hM] at HB HBa g0 hm0 hm1 HP;rw [hN] at HR HRa g1 hr1 HP;have HM:=hid hM;have HN:=hid hN;clear hi hM hN;go_enter Tryz.func50,Tryz.ntmps50;go_upto_region 1 with fail;obtain ⟨v1,Ev1,F⟩:=ax2 w C fN 43 43;rw [Ev1.out];clear Ev1;obtain ⟨h3,h6,l1,n1⟩:=F;have H3:Hid _:=h3;have H6:Hid _:=h6;have b1:w.heap.size<v1.heap.size:=by omega
 have b2:w.heap.size+1<v1.heap.size:=by omega
 have c0:=ab h3 0 g0;have OE:=OwnC.new 5 1 v1 [] 0 rfl (by decide);have nE:=(Below.refl v1.heap.size v1).alloc nle (Obj.cells #[] 5);clear h3 h6 l1;go_upto_region 2 with (at_builtin;refine jw _ rfl (.tmp 3) (.tmp 5) 22 rfl 5 Tryz.underlying22 (.int .u8 0) 1 1 Tryz.infoB rfl (by decide) v1.heap.size v1.heap.size 0 0 [] rfl OE p.am M p.cm (ex h.mem) rfl HBa.out.1 HBa.out.2 (RowC.keep (RowC.keep HB.out n1) nE) (wL _) (by omega) (by omega) v1.heap.size v1 nE nle ?_;intro g2 cap2 v2 o2 n2;have c0:=ab (ag H3.out n2 b1) 0 g0;have f0:=az (ag H3.out n2 b1) 0;have b3:=ltl b1 n2.size;clear OE nE);simp only [Nat.zero_add,List.nil_append] at o2 |-;have f2:=o2.facts;have hg1:=f2.2.1;have hg2:=f2.2.2.1;have HC2:Hid (M<=cap2∧cap2<=9223372036854775807):=⟨f2.2.2.2.1,by have:=f2.2.2.2.2;unfold maxLen at this;exact this⟩;have ng':g2≠w.heap.size:=by omega
 have n12:=cU (bst n1 n2) nle 0 (SL g2 M cap2);have K3:Hid _:=co (ag H3.out n2 b1) 0 (SL g2 M cap2);have K6:Hid _:=eF (ag H6.out n2 b2) 0 (SL g2 M cap2) (show w.heap.size+1≠w.heap.size by omega);have O2:Hid _:=OwnC.gb o2 (aq (aw v2 (some w.heap.size)) 0 (SL g2 M cap2)) ng';have z2:v1.heap.size<=(v2.setCell (AD w.heap.size 0) (SL g2 M cap2)).heap.size:=by simp;exact n2.size
 have hg2':g2<(v2.setCell (AD w.heap.size 0) (SL g2 M cap2)).heap.size:=by simp;exact hg2
 generalize v2.setCell (AD w.heap.size 0) (SL g2 M cap2)=v3 at n12 K3 K6 O2 z2 hg2' |-;clear o2 f2 n2 H3 H6 c0 n1 hg2 HB HBa;have g1':(C.setIfInBounds 0 (SL g2 M cap2))[1]?=some (.slice p.ar N p.cr):=by
  rw [Array.getElem?_setIfInBounds_ne (by omega)];exact g1
 have c1:=ab K3.out 1 g1';have b4:w.heap.size<v3.heap.size:=by omega
 have b5:w.heap.size+1<v3.heap.size:=by omega
 have OE:=OwnC.new 29 1 v3 [] 0 rfl (by decide);have nE:=(Below.refl v3.heap.size v3).alloc nle (Obj.cells #[] 29);go_upto_region 3 with (at_builtin;refine jw _ rfl (.tmp 8) (.tmp 10) 28 rfl 29 Tryz.underlying28 (VU 0) 1 8 Tryz.infoU rfl (by decide) v3.heap.size v3.heap.size 0 0 [] rfl OE p.ar N p.cr (cF h.regs) rfl HRa.out.1 HRa.out.2 (RowC.keep (RowC.keep HR.out n12) nE) (qm _) (by omega) (by omega) v3.heap.size v3 nE nle ?_;intro g4 cap4 v4 o4 n4;have c1:=ab (ag K3.out n4 b4) 1 g1';have f1:=az (ag K3.out n4 b4) 1;have b6:=ltl b4 n4.size;clear OE nE);simp only [Nat.zero_add,List.nil_append] at o4 |-;have f4:=o4.facts;have hh1:=f4.2.1;have hh2:=f4.2.2.1;have HC4:Hid (N<=cap4∧cap4<=9223372036854775807):=⟨f4.2.2.2.1,by have:=f4.2.2.2.2;unfold maxLen at this;exact this⟩;have nh':g4≠w.heap.size:=by omega
 have n14:=cU (bst n12 n4) nle 1 (SL g4 N cap4);have J3:Hid _:=co (ag K3.out n4 b4) 1 (SL g4 N cap4);have J6:Hid _:=eF (ag K6.out n4 b5) 1 (SL g4 N cap4) (show w.heap.size+1≠w.heap.size by omega);have O4:Hid _:=OwnC.gb o4 (aq (aw v4 (some w.heap.size)) 1 (SL g4 N cap4)) nh';have O5:Hid _:=OwnC.gb (OwnC.keep O2.out n4 hg2') (aq (aw v4 (some w.heap.size)) 1 (SL g4 N cap4)) ng';have z4:v3.heap.size<=(v4.setCell (AD w.heap.size 1) (SL g4 N cap4)).heap.size:=by simp;exact n4.size
 have hh2':g4<(v4.setCell (AD w.heap.size 1) (SL g4 N cap4)).heap.size:=by simp;exact hh2
 generalize v4.setCell (AD w.heap.size 1) (SL g4 N cap4)=v5 at n14 J3 J6 O4 O5 z4 hh2' |-;clear o4 f4 n4 K3 K6 c1 hh2 HR HRa O2 n12;have hsz2:((C.setIfInBounds 0 (SL g2 M cap2)).setIfInBounds 1 (SL g4 N cap4)).size=21:=by simp only [Array.size_setIfInBounds,hsz]
 have HE:Hid _:=HP.out g2 cap2 g4 cap4;have HLk:Hid _:=de (P:=Tryz.prog) (T:=41) J3.out Tryz.underlying41 rfl (o:=12) (kA p h.k).toList kI (HKp.out _ _) rfl;have HKc:=hid fun u (hu:Bw w u)=>ip _ _ u (HK.out.keep hu);rw [show (kA p h.k).toList.toArray=kA p h.k from rfl] at HLk;generalize ((C.setIfInBounds 0 (SL g2 M cap2)).setIfInBounds 1 (SL g4 N cap4))=D at J3 hsz2 HE HLk;have b7:w.heap.size<v5.heap.size:=by omega
 have b8:w.heap.size+1<v5.heap.size:=by omega
 have HKK:=hid HK.out.ok;generalize kA p h.k=E at *;go_wp2_with (first | ((with_reducible refine ba ?_ HLk.out ?_);(exact rfl)));refine (HKc.out v5 n14).mono ?_;rintro e v6 ⟨⟨x,rfl,hx⟩,n6⟩;obtain ⟨a1,c1,a2,c2,a3,c3,hxe⟩:=hx.rows;have hx0:=(hxe p).1;subst hx0;have HX:=hid ((hxe p).2);clear hxe hx;have I3:Hid _:=ag J3.out n6 b7;have I6:Hid _:=ag J6.out n6 b8;have n16:=bst n14 n6;have O6:Hid _:=OwnC.keep O4.out n6 hh2';have O7:Hid _:=OwnC.keep O5.out n6 (by omega);have hEs:(kA (pK p a1 c1 a2 c2 a3 c3) h.k).size=9:=rfl;have HSk:Hid _:=eJ (P:=Tryz.prog) (T:=41) I3.out (o:=12) (V:=kA (pK p a1 c1 a2 c2 a3 c3) h.k) (by rw [hEs];exact kI) (by rw [hEs,hsz2];omega) (wM _ _);have e1:=cT w.heap.size (kA (pK p a1 c1 a2 c2 a3 c3) h.k).toList 12 v6 D _ _ I3.out (by rw [hsz2];show 12+9<=21;omega);rw [HE.out,ui] at e1;have L3:Hid _:=e1;have L6:Hid _:=iy I6.out 12 (kA (pK p a1 c1 a2 c2 a3 c3) h.k).toList (show w.heap.size+1≠w.heap.size by omega);have n17:=aS (Nat.le_refl w.heap.size) (kA (pK p a1 c1 a2 c2 a3 c3) h.k).toList 12 v6 n16;have gG:=aH w.heap.size (kA (pK p a1 c1 a2 c2 a3 c3) h.k).toList 12 v6 v6 (aw v6 _);have O8:Hid _:=OwnC.gb O6.out gG nh';have O9:Hid _:=OwnC.gb O7.out gG ng';have HX2:=hid (KRows.gb HX.out gG b7);have hDD:(ak (pK (tM p g2 cap2 g4 cap4) (pK p a1 c1 a2 c2 a3 c3).a1 (pK p a1 c1 a2 c2 a3 c3).c1 (pK p a1 c1 a2 c2 a3 c3).a2 (pK p a1 c1 a2 c2 a3 c3).c2 (pK p a1 c1 a2 c2 a3 c3).a3 (pK p a1 c1 a2 c2 a3 c3).c3) (withK h h.k)).size=21:=rfl;have hone:=fT (pK (tM p g2 cap2 g4 cap4) (pK p a1 c1 a2 c2 a3 c3).a1 (pK p a1 c1 a2 c2 a3 c3).c1 (pK p a1 c1 a2 c2 a3 c3).a2 (pK p a1 c1 a2 c2 a3 c3).c2 (pK p a1 c1 a2 c2 a3 c3).a3 (pK p a1 c1 a2 c2 a3 c3).c3) (withK h h.k);have HFin:Hid (ak (pK (tM p g2 cap2 g4 cap4) (pK p a1 c1 a2 c2 a3 c3).a1 (pK p a1 c1 a2 c2 a3 c3).c1 (pK p a1 c1 a2 c2 a3 c3).a2 (pK p a1 c1 a2 c2 a3 c3).c2 (pK p a1 c1 a2 c2 a3 c3).a3 (pK p a1 c1 a2 c2 a3 c3).c3) (withK h h.k)=ak (pK (tM p g2 cap2 g4 cap4) a1 c1 a2 c2 a3 c3) h):=rfl;generalize ak (pK (tM p g2 cap2 g4 cap4) (pK p a1 c1 a2 c2 a3 c3).a1 (pK p a1 c1 a2 c2 a3 c3).c1 (pK p a1 c1 a2 c2 a3 c3).a2 (pK p a1 c1 a2 c2 a3 c3).c2 (pK p a1 c1 a2 c2 a3 c3).a3 (pK p a1 c1 a2 c2 a3 c3).c3) (withK h h.k)=G at L3 hDD hone HFin;generalize kA (pK p a1 c1 a2 c2 a3 c3) h.k=E2 at *;go_upto_region 4 with (first | ((with_reducible refine aL ?_ ?_ HSk.out ?_);(exact rfl);(exact rfl)));generalize v6.setCells w.heap.size 12 E2.toList=v7 at L3 L6 n17 O8 O9 HX2 |-;have HLr:Hid _:=bf (P:=Tryz.prog) (T:=43) L3.out Tryz.underlying43 rfl (by rw [hDD];exact eM);have HSr:Hid _:=bq (P:=Tryz.prog) (T:=43) (V:=G) L6.out (by rw [hDD];exact eM) (by rw [hDD,eY]) hone;have e1:=aT (V:=G) L6.out (by rw [hDD,eY]);have e2:=aS (show w.heap.size<=w.heap.size+1 by omega) (G).toList 0 _ n17;have eG:=aH (w.heap.size+1) (G).toList 0 v7 v7 (aw v7 _);go_wp2_with (first
  | ((with_reducible refine ba ?_ HLr.out ?_);(exact rfl))
  | ((with_reducible refine aL ?_ ?_ HSr.out ?_);(exact rfl);(exact rfl)))
 refine dx (b:=w.heap.size+1) Tryz.results50 rfl (bw (P:=Tryz.prog) e1 Tryz.underlying43 rfl (by rw [hDD];exact eM)) rfl ?_;have OA:=OwnC.gb O8.out eG (show g4≠w.heap.size+1 by omega);have OB:=OwnC.gb O9.out eG (show g2≠w.heap.size+1 by omega);have hX3:=KRows.gb HX2.out eG b8;have hks:=KRows.ptrs hX3;simp only [pK] at hks;refine ⟨⟨pK (tM p g2 cap2 g4 cap4) a1 c1 a2 c2 a3 c3,by rw [HFin.out],?_,?_⟩,e2⟩
 rotate_left 1
 ·intro q hq;simp only [aV,pK,tM,List.mem_cons,List.not_mem_nil,or_false] at hq;rcases hq with hq | hq | hq | hq | hq
  ·cases hq;show w.heap.size<=g2;omega
  ·cases hq;show w.heap.size<=g4;omega
  ·have:=(hks q (.inl hq.symm)).1;omega
  ·have:=(hks q (.inr (.inl hq.symm))).1;omega
  ·have:=(hks q (.inr (.inr hq.symm))).1;omega
 refine ⟨?_,?_,?_,?_,⟨fun hh=>(by cases hh),fun q hq=>by cases hq;rfl⟩,?_,?_⟩
 ·have:=OwnB.byt (e:=5) (zs:=h.mem) OB HZ.out;rw [HM.out];exact this
 ·rw [HM.out];exact HC2.out
 ·rw [HN.out];exact OA.row
 ·rw [HN.out];exact HC4.out
 ·exact KRows.at (q:=pK (tM p g2 cap2 g4 cap4) a1 c1 a2 c2 a3 c3) hX3 HKK.out
 ·intro q hq;simp only [aV,pK,tM,List.mem_cons,List.not_mem_nil,or_false] at hq;rcases hq with hq | hq | hq | hq | hq
  ·cases hq;exact (OwnC.facts OB).2.2.1
  ·cases hq;exact (OwnC.facts OA).2.2.1
  ·exact (hks q (.inl hq.symm)).2
  ·exact (hks q (.inr (.inl hq.symm))).2
  ·exact (hks q (.inr (.inr hq.symm))).2
theorem tF:(Tryz.prog.info? 182).map (·.size)=some 2:=by kernel_rfl
theorem Tryz.infoLk:(Tryz.prog.info? 66).map (fun i=>(i.zero,i.size,i.bytes))=some (some (.agg #[VI 0,VU 0]),2,16):=by kernel_rfl
theorem lx (ls:List (Int × Int)):∀u∈fj ls,u.oneCell'=true:=by
 induction ls with
 | nil=>intro u hu;cases hu
 | cons l ls ih=>
  intro u hu;simp only [fj,List.mem_cons] at hu;rcases hu with rfl | rfl | hu
  ·rfl
  ·rfl
  ·exact ih u hu
theorem tG (a b:List (Int × Int)):fj (a++b)=fj a++fj b:=by
 induction a with
 | nil=>rfl
 | cons l a ih=>simp [fj,ih]
theorem qM {base size n:Nat} {e:TypeId} {w:World} {s:Value} {cs:List Value} (h:w.ownsRow base e size s n cs):∃a c,s=.slice a n c:=by
 have h1:=h.1;rcases h.2 with ⟨h2,h3⟩ | ⟨g',cap',cur,h2,_⟩
 ·exact ⟨none,0,by rw [h2,h3]⟩
 ·exact ⟨some (AD g' 0),cap',h2⟩
def ly (q:PtrM) (r:(Int × Int) × KM):Array Value:=#[VI r.1.1,VU r.1.2,VI r.2.i.sets,VI r.2.i.ways,.slice q.a1 r.2.i.es.length q.c1,VI r.2.d.sets,VI r.2.d.ways,.slice q.a2 r.2.d.es.length q.c2,VI r.2.p.sets,VI r.2.p.ways,.slice q.a3 r.2.p.es.length q.c3]
theorem TransOwn.open {base:Nat} {w:World} {x:Value} {r:(Int × Int) × KM} (h:TransOwn base w x r) (p:PtrM):∃a1 c1 a2 c2 a3 c3,x=.agg (ly (pK p a1 c1 a2 c2 a3 c3) r)∧KRows base w (pK p a1 c1 a2 c2 a3 c3) r.2:=by
 obtain ⟨s1,s2,s3,rfl,o1,o2,o3⟩:=h;obtain ⟨a1,c1,rfl⟩:=qM o1;obtain ⟨a2,c2,rfl⟩:=qM o2;obtain ⟨a3,c3,rfl⟩:=qM o3;exact ⟨a1,c1,a2,c2,a3,c3,rfl,o1,o2,o3⟩
theorem yQ {P:Program} {fn:Func} {R:Ending->World->Prop} {a:Act} {w:World} {s t:Tmp} {T U:TypeId} {b c:Nat} {V W:Value} (hr:fn.results=#[ResultVar.cell s T,ResultVar.cell t U]) (hs:a.tmps[s]?=some (PT b 0)) (ht:a.tmps[t]?=some (PT c 0)) (hl:(loadVar T (AD b 0)).run P w=.ok V w) (hm:(loadVar U (AD c 0)).run P w=.ok W w) (hd:a.defers=[]) (hR:R (.returned (.tuple #[V,W])) w):bodyPost P fn R .ret a w:=by
 refine bodyPost_ret (v:=.tuple #[V,W]) ?_ hd hR;simp [results,hr,hs,ht,asAddr,hl,hm,Sem.run_bind]
theorem qh (p:PtrM) (al:Option Addr) (cl:Nat) (pick:Int) (r:RunM) (kind va:Int) (w:World) (hr:RunIn w p al cl r) (hk:ROk r) (hpk:0<=pick∧pick<=255) (hkd:0<=kind∧kind<=2) (hv:inU va) (hll:r.looks.length<=7):
 Calls Tryz.prog 92 #[.agg (aM p al cl true pick r),VI kind,VU va] w fun e w'=>(∃p' al' cl',e=.returned (.tuple #[.agg (aM p' al' cl' true pick (bR true pick r kind va)),fz (bu true pick r.h kind va).1])∧RunIn w' p' al' cl' (bR true pick r kind va)∧From w.heap.size p p'∧FromL w.heap.size al al')∧Bw w w':=by
 have hmem:=ic hk.h.v.size;have HI:=hid hr;have HOK:=hid hk;have HLk:=hid hr.looks;have HLa:=hid hr.looka;have HP:Hid (∀g cap,(aM p al cl true pick r).setIfInBounds 25 (SL g (r.looks.length+1) cap)=aM p (some (AD g 0)) cap true pick ⟨r.h,r.cause,r.tval,r.looks++[(kind,va)],r.fenced,r.fence⟩):=fun g cap=>by
  unfold aM;simp
 have hsz:=bC p al cl true pick r;have g25:(aM p al cl true pick r)[25]?=some (.slice al r.looks.length cl):=rfl;have HO:=hid (dv p al cl true pick r);generalize aM p al cl true pick r=C at *;obtain ⟨N,hN⟩:∃N,r.looks.length=N:=⟨_,rfl⟩;rw [hN] at HLk HLa HP g25 hll;have HN:=hid hN;clear hr hN hk;go_enter Tryz.func92,Tryz.ntmps92;go_upto_region 1 with fail;obtain ⟨v1,Ev1,F⟩:=ax3 w C eH #[VI 0,VU 0] 61 61 182;rw [Ev1.out];clear Ev1;obtain ⟨h3,h6,h7,l1,n1⟩:=F;have H3:Hid _:=h3;have H6:Hid _:=h6;have H7:Hid _:=h7;have b1:w.heap.size<v1.heap.size:=by omega
 have b2:w.heap.size+1<v1.heap.size:=by omega
 have b3:w.heap.size+2<v1.heap.size:=by omega
 have c25:=ab h3 25 g25;have OE:=OwnC.new 66 2 v1 [] 0 rfl (by decide);have nE:=(Below.refl v1.heap.size v1).alloc nle (Obj.cells #[] 66);clear h3 h6 h7 l1;go_upto_region 2 with (at_builtin;first
  | (refine jw _ rfl (.tmp 9) (.tmp 11) 57 rfl 66 Tryz.underlying57 (.agg #[VI 0,VU 0]) 2 16 Tryz.infoLk rfl (by decide) v1.heap.size v1.heap.size 0 0 [] rfl OE al N cl (fj r.looks) rfl HLa.out.1 HLa.out.2 (RowC.keep (RowC.keep HLk.out n1) nE) (lx _) (by omega) (by omega) v1.heap.size v1 nE nle ?_;intro g2 cap2 v2 o2 n2;have n3:=(Below.refl v2.heap.size v2).alloc nle (Obj.cells #[VI kind,VU va] 66);have n23:=bst n2 n3;simp only [Nat.zero_add,List.nil_append] at o2 |-;have o3:=OwnC.keep o2 n3 o2.facts.2.2.1;have q3:=(OwnC.new 66 2 v2 (fj [(kind,va)]) 1 rfl (by decide)).row;have z2:=n2.size;clear OE nE)
  | (refine jw _ rfl (.tmp 12) (.tmp 16) 57 rfl 66 Tryz.underlying57 (.agg #[VI 0,VU 0]) 2 16 Tryz.infoLk rfl (by decide) v1.heap.size g2 N cap2 (fj r.looks) rfl o3 (some (AD v2.heap.size 0)) 1 1 (fj [(kind,va)]) rfl (fun h=>(by cases h)) (fun q hq=>by cases hq;rfl) q3 (lx _) (by omega) (by omega) v1.heap.size v1 n23 nle ?_;intro g4 cap4 v4 o4 n4;have k3:=ag H3.out n4 b1;have c25:=ab k3 25 g25;have f25:=az k3 25;have b4:=ltl b1 n4.size;clear o2 o3 q3 n2 n3 n23 z2))
 have f4:=o4.facts;have hg1:=f4.2.1;have hg2:=f4.2.2.1;have HC4:Hid (N+1<=cap4∧cap4<=9223372036854775807):=⟨f4.2.2.2.1,by have:=f4.2.2.2.2;unfold maxLen at this;exact this⟩;have ng':g4≠w.heap.size:=by omega
 have K3:Hid _:=co k3 25 (SL g4 (N+1) cap4);have K6:Hid _:=eF (ag H6.out n4 b2) 25 (SL g4 (N+1) cap4) (show w.heap.size+1≠w.heap.size by omega);have K7:Hid _:=eF (ag H7.out n4 b3) 25 (SL g4 (N+1) cap4) (show w.heap.size+2≠w.heap.size by omega);have n5:=cU (bst n1 n4) nle 25 (SL g4 (N+1) cap4);have O5:Hid (OwnC 66 2 (v4.setCell (AD w.heap.size 25) (SL g4 (N+1) cap4)) v1.heap.size g4 (N+1) cap4 (fj (r.looks++[(kind,va)]))):=by
  rw [tG];exact OwnC.gb o4 (aq (aw v4 (some w.heap.size)) 25 (SL g4 (N+1) cap4)) ng'
 have z5:v1.heap.size<=(v4.setCell (AD w.heap.size 25) (SL g4 (N+1) cap4)).heap.size:=by simp;exact n4.size
 have hg3:g4<(v4.setCell (AD w.heap.size 25) (SL g4 (N+1) cap4)).heap.size:=by simp;exact hg2
 generalize v4.setCell (AD w.heap.size 25) (SL g4 (N+1) cap4)=v5 at K3 K6 K7 n5 O5 z5 hg3 |-;have HE:Hid _:=HP.out g4 cap4;have hsz2:(C.setIfInBounds 25 (SL g4 (N+1) cap4)).size=31:=by simp only [Array.size_setIfInBounds,hsz]
 have hone:=no HO.out 25 (v:=SL g4 (N+1) cap4) rfl;generalize C.setIfInBounds 25 (SL g4 (N+1) cap4)=D at K3 HE hsz2 hone;clear o4 f4 k3 c25 f25 n4 H3 H6 H7 hg2 n1 HLk HLa;have HD:=HE.out;have g21:D[21]?=some (.bool true):=by rw [HD];rfl
 have g22:D[22]?=some (VI pick):=by rw [HD];rfl
 have g0:D[0]?=some (.slice p.am r.h.mem.length p.cm):=by rw [HD];rfl
 have HDh:Hid ((D.toList.drop 0).take 21=(ak p r.h).toList):=by show _=_;rw [HD];rfl
 have HDk:Hid ((D.toList.drop 12).take 9=(kA p r.h.k).toList):=by show _=_;rw [HD];rfl
 clear HD;have c21:=ab K3.out 21 g21;have b5:w.heap.size<v5.heap.size:=by omega
 go_upto_region 3 with fail;clear c21;obtain ⟨M,hM⟩:∃M,r.h.mem.length=M:=⟨_,rfl⟩;rw [hM] at g0;have HPl:Hid (∀u,Bw w u->Calls Tryz.prog 124 #[.slice p.am M p.cm,et r.h.mode r.h.sum r.h.mxr r.h.satp,VI kind,VU va] u fun e w'=>e=.returned (fz (bu true pick r.h kind va).1)∧Bw u w'):=fun u hu=>by
  have hB:=HI.out.h.mem.keep hu;rw [hM] at hB;exact tS p.am M p.cm r.h.mem r.h.mode r.h.sum r.h.mxr r.h.satp kind va u (by omega) (by have:=HI.out.h.memc.1;omega) HI.out.h.memc.2 HOK.out.h.satp.1 HOK.out.h.satp.2 hv.1 hv.2 hB
 have HCt:=hid fun u=>uP p r.h u;have HLh:=hid fun (u:World) (hu:u.heap[w.heap.size]?=some (.cells D 61 (0,0)))=>de (P:=Tryz.prog) (T:=43) hu Tryz.underlying43 rfl (o:=0) (ak p r.h).toList eM HDh.out rfl;have HLr:=hid fun (u:World) (hu:u.heap[w.heap.size]?=some (.cells D 61 (0,0)))=>bf (P:=Tryz.prog) (T:=61) hu Tryz.underlying61 rfl (by rw [hsz2];exact dm);have hMl:M<=4096:=by omega
 clear hM hmem;generalize ak p r.h=E at *;have HTV:Hid (∃tv,fz (bu true pick r.h kind va).1=.agg tv∧tv.size=2∧tv.all (·.oneCell')=true):=⟨_,rfl,rfl,by simp [Value.oneCell']⟩;obtain ⟨tv,htv,tvs,tvo⟩:=HTV.out;rw [htv] at HPl;have HTw:Hid _:=htv;clear htv HTV;have HTo:=hid tvo;clear tvo;have HL0:Hid (∀u:World,u.heap[w.heap.size]?=some (.cells D 61 (0,0))->(Instr.loadAt 22 (PT w.heap.size 0)).run Tryz.prog u=.ok (.slice p.am M p.cm) u):=fun u hu=>by
  have h1:=ab hu 0 g0;go_simp
 have nD:=bdr v5;have hF:v5.drew.heap[w.heap.size]?=some (.cells D 61 (0,0)):=K3.out;refine aN (fun u=>u.heap[w.heap.size]?=some (.cells D 61 (0,0))) 10 ?_;refine ax 0 21 (.agg D) rfl hF ?_ (hy:=fun u hu=>aU rfl (HLr.out u hu))
 go_frame
 refine ax 1 22 (PT w.heap.size 0) rfl hF ?_;refine ax 2 23 (PT w.heap.size 0) rfl hF ?_
 go_frame
 refine ax 3 24 (.slice p.am M p.cm) rfl hF ?_ (hy:=fun u hu=>aU rfl (HL0.out u hu));refine ax 4 25 (PT w.heap.size 0) rfl hF ?_
 go_frame
 refine ax 5 26 (.agg E) rfl hF ?_ (hy:=fun u hu=>aU rfl (HLh.out u hu));refine ax 7 28 (VI kind) rfl hF ?_;refine ax 8 29 (VU va) rfl hF ?_
 go_frame
 refine dN 6 27 rfl (f:=54) (args:=#[.agg E]) ?_;refine Calls.mono (HCt.out v5.drew) ?_;rintro e u6 ⟨rfl,m6⟩;replace m6:=bst nD m6;refine ⟨_,rfl,fun _=>ag K3.out m6 b5,?_⟩
 go_frame
 refine dN 9 30 rfl (f:=124) (args:=#[.slice p.am M p.cm,et r.h.mode r.h.sum r.h.mxr r.h.satp,VI kind,VU va]) ?_;refine (HPl.out u6 (bst n5 m6)).mono ?_;rintro e v6 ⟨rfl,n6⟩;replace n6:=bst m6 n6;refine ⟨_,rfl,fun _=>ag K3.out n6 b5,?_⟩
 go_frame
 have L6:Hid _:=ag K6.out n6 (by omega);have L7:Hid _:=ag K7.out n6 (by omega);have n7:=bst n5 n6;have O7:Hid _:=OwnC.keep O5.out n6 hg3;have HS6:Hid _:=bq (P:=Tryz.prog) (T:=61) (V:=D) L6.out (by rw [hsz2];exact dm) (by rw [hsz2,aX]) hone;have M6:Hid _:=aT (V:=D) L6.out (by rw [hsz2,aX]);have M7:Hid _:=iy L7.out 0 D.toList (show w.heap.size+2≠w.heap.size+1 by omega);have n8:=aS (show w.heap.size<=w.heap.size+1 by omega) D.toList 0 v6 n7;have O8:Hid _:=OwnC.gb O7.out (aH (w.heap.size+1) D.toList 0 v6 v6 (aw v6 _)) (show g4≠w.heap.size+1 by omega);have HS7:Hid _:=bq (P:=Tryz.prog) (T:=182) (V:=tv) M7.out (by rw [tvs];exact tF) tvs HTo.out;have N7:Hid _:=aT (V:=tv) M7.out tvs;have N6:Hid _:=iy M6.out 0 tv.toList (show w.heap.size+1≠w.heap.size+2 by omega);have n9:=aS (show w.heap.size<=w.heap.size+2 by omega) tv.toList 0 _ n8;have O9:Hid _:=OwnC.gb O8.out (aH (w.heap.size+2) tv.toList 0 _ _ (aw _ _)) (show g4≠w.heap.size+2 by omega);refine dO 10 6 21 rfl HS6.out ?_;refine dO 11 7 30 rfl HS7.out ?_;refine dt ?_;go_wp2_with fail;refine yQ (b:=w.heap.size+1) (c:=w.heap.size+2) Tryz.results92 rfl rfl (bw (P:=Tryz.prog) N6.out Tryz.underlying61 rfl (by rw [hsz2];exact dm)) (bw (P:=Tryz.prog) N7.out Tryz.underlying182 rfl (by rw [tvs];exact tF)) rfl ?_;refine ⟨⟨p,some (AD g4 0),cap4,by rw [HE.out,HTw.out];rfl,?_,fun q hq=>.inl hq,fun q hq=>by cases hq;exact .inr (show w.heap.size<=g4 by omega)⟩,n9⟩;refine ⟨HI.out.h.keep n9,?_,?_,⟨fun h=>(by cases h),fun q hq=>by cases hq;rfl⟩,?_,fun q hq=>by cases hq;exact (OwnC.facts O9.out).2.2.1⟩
 ·show RowC _ _ (r.looks++[(kind,va)]).length 2 _;rw [List.length_append,HN.out];exact OwnC.row O9.out
 ·show (r.looks++[(kind,va)]).length<=_∧_;rw [List.length_append,HN.out];exact HC4.out
 ·show (r.looks++[(kind,va)]).length<=_;rw [List.length_append,HN.out];show N+1<=8;omega
def EQ:Prop:=∀(p:PtrM) (al:Option Addr) (cl:Nat) (pick:Int) (r:RunM) (kind va:Int) (w:World) (hr:RunIn w p al cl r) (hk:ROk r) (hpk:0<=pick∧pick<=255) (hkd:0<=kind∧kind<=2) (hv:inU va) (hll:r.looks.length<=7),Calls Tryz.prog 92 #[.agg (aM p al cl false pick r),VI kind,VU va] w fun e w'=>(∃p' al' cl',e=.returned (.tuple #[.agg (aM p' al' cl' false pick (bR false pick r kind va)),fz (bu false pick r.h kind va).1])∧RunIn w' p' al' cl' (bR false pick r kind va)∧From w.heap.size p p'∧FromL w.heap.size al al')∧Bw w w'
def PlC (plain:Bool):Prop:=plain=true∨EQ
theorem qO (y:Int):((ae y).sets=1∨(ae y).sets=2∨(ae y).sets=4∨(ae y).sets=8)∧(1<=(ae y).ways∧(ae y).ways<=4)∧((ae y).es.length:Int)=(ae y).sets*(ae y).ways∧(ae y).es.length<=32:=by
 have hm:y%4=0∨y%4=1∨y%4=2∨y%4=3:=by omega
 have hw:y/4%4=0∨y/4%4=1∨y/4%4=2∨y/4%4=3:=by omega
 unfold ae;rcases hm with h | h | h | h <;> rcases hw with k | k | k | k <;> rw [h,k] <;> simp only [List.length_replicate] <;> decide
theorem ka (y:Int):fP (ae y):=by
 obtain ⟨h1,h2,h3,h4⟩:=qO y;refine ⟨?_,by omega,by omega,by omega⟩;intro e he;unfold ae at he;have:=(List.mem_replicate.1 he).2;subst this;simp [fq,cH]
theorem wD (y:Int) (p:Bool):aR (ae y) p=true:=by
 obtain ⟨h1,h2,h3,h4⟩:=qO y;unfold aR;rw [Bool.and_eq_true];refine ⟨by simp only [jA,decide_eq_true_eq];exact ⟨h1,h2.1,h2.2,h3⟩,gH _ p _ 0 (fun j x hx=>?_)⟩;have hm:=List.mem_of_getElem? hx;unfold ae at hm;have:=(List.mem_replicate.1 hm).2;subst this;simp [cD,cH]
theorem yS (b:List Int) (hb:∀i:Nat,0<=b[i]?.getD 0∧b[i]?.getD 0<=255):∀(m i a:Nat) (mem:List Int),(∀z∈mem,0<=z∧z<=255)->(lM b m i a mem).length=mem.length∧∀z∈lM b m i a mem,0<=z∧z<=255
 | 0,i,a,mem,h=>⟨rfl,h⟩
 | m+1,i,a,mem,h=>by
  rw [lM];split
  ·have:=yS b hb m (i+1) (a+1) (mem.set a (atM b i)) (fun z hz=>by
    rcases List.mem_or_eq_of_mem_set hz with hz | rfl
    ·exact h z hz
    ·exact hb i)
   rw [List.length_set] at this;exact this
  ·exact yS b hb m (i+1) (a+1) mem h
theorem zW (b:List Int) (hb:∀i:Nat,0<=b[i]?.getD 0∧b[i]?.getD 0<=255):∀(n i:Nat) (mem:List Int),(∀z∈mem,0<=z∧z<=255)->(jc b n i mem).1.length=mem.length∧∀z∈(jc b n i mem).1,0<=z∧z<=255
 | 0,i,mem,h=>⟨rfl,h⟩
 | n+1,i,mem,h=>by
  have h1:=yS b hb (atM b (i+2)).toNat (i+3) (rh b i) mem h;have h2:=zW b hb n (i+3+(atM b (i+2)).toNat) _ h1.2;rw [jc];exact ⟨h2.1.trans h1.1,h2.2⟩
theorem mH {zs:List Int} (h:∀i:Nat,0<=zs[i]?.getD 0∧zs[i]?.getD 0<=255) (i:Nat):inU (cz zs i):=by
 unfold cz;have:=lX ((List.range 8).map fun k=>atM zs (i+k)) 8 (fun z hz=>by
  simp only [List.mem_map] at hz;obtain ⟨j,_,rfl⟩:=hz;exact h _) (by simp)
 unfold inU;omega
theorem zX {zs:List Int} (h:∀i:Nat,0<=zs[i]?.getD 0∧zs[i]?.getD 0<=255):HOk (fK zs):=by
 have h3:=h 3;have hm:=zW zs h (atM zs 87).toNat 88 (List.replicate (64*(1+(atM zs 3%64).toNat)) 0) (fun z hz=>by rw [(List.mem_replicate.1 hz).2];omega);rw [List.length_replicate] at hm;have hmode:0<=bU (atM zs 4)∧bU (atM zs 4)<=2:=by
  unfold bU;split <;> omega
 have hsat:dh (if dh (cz zs 23)=true then cz zs 23 else 0)=true:=by
  split
  ·assumption
  ·rfl
 refine ⟨(ec _).2 ⟨?_,?_,?_,hmode,hmode,hsat,?_,?_,?_⟩,?_,?_,mH h 7,?_,?_,?_,?_,⟨ka _,ka _,ka _⟩⟩
 ·show fh (rx zs).1.length=true;unfold rx;rw [hm.1];simp only [fh,decide_eq_true_eq];have:(atM zs 3%64).toNat<=63:=by omega
  omega
 ·simp [fK,jK]
 ·rfl
 ·show (cz zs 15/4*4)%4=0;omega
 ·show 0<=(0:Int)∧(0:Int)<=63;omega
 ·show bJ ⟨ae (atM zs 0),ae (atM zs 1),ae (atM zs 2)⟩=true;simp only [bJ,wD,Bool.and_self]
 ·show iJ (rx zs).1;intro i;unfold rx;cases hx:(jc zs (atM zs 87).toNat 88 (List.replicate (64*(1+(atM zs 3%64).toNat)) 0)).1[i]? with
  | none=>exact ⟨by simp,by simp⟩
  | some x=>
   have:=hm.2 x (List.mem_of_getElem? hx);simpa using this
 ·show rX (jK zs);intro i;cases hx:(jK zs)[i]? with
  | none=>exact ⟨by simp,by simp⟩
  | some x=>
   have hmem:=List.mem_of_getElem? hx;simp only [jK,List.mem_cons,List.mem_map] at hmem;have:inU x:=by
    rcases hmem with rfl | ⟨j,_,rfl⟩
    ·simp [inU]
    ·exact mH h _
   simpa [inU] using this
 ·show inU (if dh (cz zs 23)=true then cz zs 23 else 0);split
  ·exact mH h 23
  ·simp [inU]
 ·show inU (cz zs 15/4*4);have:=mH h 15;unfold inU at this |-;omega
 ·show inU 0;simp [inU]
 ·show inU 0;simp [inU]
theorem pr (v:Value) (t:TlbM) (w:World) (h:TlbAt w v t):
 Calls Tryz.prog 107 #[v] w fun e w'=>(∃s y l n c,e=.returned (.tuple #[.agg #[VI s,VI y,.slice l n c],.bool (aR t false)])∧(aR t false=true->∃g,s=t.sets∧y=t.ways∧l=some (AD g 0)∧n=t.es.length∧c=t.es.length∧w'.ownsRow w.heap.size 246 6 (SL g t.es.length t.es.length) t.es.length (aI t.es)))∧Bw w w':=by
 refine (pW.1 v t w h).mono ?_;rintro e w' ⟨hc,nb⟩;refine ⟨?_,nb⟩;cases hv:aR t false
 ·rw [hv] at hc;dsimp only [cond] at hc;exact ⟨_,_,_,_,_,hc,fun h=>by cases h⟩
 ·rw [hv] at hc;dsimp only [cond] at hc;obtain ⟨g,he,ho⟩:=hc;exact ⟨_,_,_,_,_,he,fun _=>⟨g,rfl,rfl,rfl,rfl,rfl,ho⟩⟩
theorem vg (v:Value) (t:TlbM) (w:World) (h:TlbAt w v t):
 Calls Tryz.prog 108 #[v] w fun e w'=>(∃s y l n c,e=.returned (.tuple #[.agg #[VI s,VI y,.slice l n c],.bool (aR t true)])∧(aR t true=true->∃g,s=t.sets∧y=t.ways∧l=some (AD g 0)∧n=t.es.length∧c=t.es.length∧w'.ownsRow w.heap.size 251 6 (SL g t.es.length t.es.length) t.es.length (aI t.es)))∧Bw w w':=by
 refine (pW.2 v t w h).mono ?_;rintro e w' ⟨hc,nb⟩;refine ⟨?_,nb⟩;cases hv:aR t true
 ·rw [hv] at hc;dsimp only [cond] at hc;exact ⟨_,_,_,_,_,hc,fun h=>by cases h⟩
 ·rw [hv] at hc;dsimp only [cond] at hc;obtain ⟨g,he,ho⟩:=hc;exact ⟨_,_,_,_,_,he,fun _=>⟨g,rfl,rfl,rfl,rfl,rfl,ho⟩⟩
def Cd (base:Nat) (w:World) (e:Ending) (k:KM):Prop:=∃gi gd gp,e=.returned (.tuple #[.agg (iw k gi gd gp),.bool true])∧RowsAt w base gi gd gp k
theorem rN (v:Value) (k:KM) (w:World) (h:KAt w v k):
 Calls Tryz.prog 69 #[v] w fun e w'=>cond (bJ k) (Cd w.heap.size w' e k) (e=.returned (.tuple #[.agg #[VI 0,VI 0,SN,VI 0,VI 0,SN,VI 0,VI 0,SN],.bool false]))∧Bw w w':=by
 obtain ⟨a1,c1,a2,c2,a3,c3,rfl,T1,T2,T3⟩:=h;obtain ⟨q1,hq1⟩:∃q,aR k.i false=q:=⟨_,rfl⟩;obtain ⟨q2,hq2⟩:∃q,aR k.d false=q:=⟨_,rfl⟩;obtain ⟨q3,hq3⟩:∃q,aR k.p true=q:=⟨_,rfl⟩;have HQ1:=hid hq1;have HQ2:=hid hq2;have HQ3:=hid hq3;have hgood:bJ k=(q1 && q2 && q3):=by unfold bJ;rw [hq1,hq2,hq3]
 rw [hgood];clear hgood hq1 hq2 hq3;have HT1:=hid fun u (hu:Bw w u)=>T1.keep hu;have HT2:=hid fun u (hu:Bw w u)=>T2.keep hu;have HT3:=hid fun u (hu:Bw w u)=>T3.keep hu;clear T1 T2 T3;have n1:=((Below.refl w.heap.size w).alloc nle (Obj.cells #[VI k.i.sets,VI k.i.ways,.slice a1 k.i.es.length c1,VI k.d.sets,VI k.d.ways,.slice a2 k.d.es.length c2,VI k.p.sets,VI k.p.ways,.slice a3 k.p.es.length c3] 41)).alloc (by simp) (Obj.cells #[VI 0,VI 0,SN,VI 0,VI 0,SN,VI 0,VI 0,SN] 93);have H1:Hid (((w.alloc (Obj.cells #[VI k.i.sets,VI k.i.ways,.slice a1 k.i.es.length c1,VI k.d.sets,VI k.d.ways,.slice a2 k.d.es.length c2,VI k.p.sets,VI k.p.ways,.slice a3 k.p.es.length c3] 41)).alloc (Obj.cells #[VI 0,VI 0,SN,VI 0,VI 0,SN,VI 0,VI 0,SN] 93)).heap[w.heap.size]?=some (.cells #[VI k.i.sets,VI k.i.ways,.slice a1 k.i.es.length c1,VI k.d.sets,VI k.d.ways,.slice a2 k.d.es.length c2,VI k.p.sets,VI k.p.ways,.slice a3 k.p.es.length c3] 41 (0,0))):=by
  exact (jI w _ _ _ _).1
 have H2:Hid (((w.alloc (Obj.cells #[VI k.i.sets,VI k.i.ways,.slice a1 k.i.es.length c1,VI k.d.sets,VI k.d.ways,.slice a2 k.d.es.length c2,VI k.p.sets,VI k.p.ways,.slice a3 k.p.es.length c3] 41)).alloc (Obj.cells #[VI 0,VI 0,SN,VI 0,VI 0,SN,VI 0,VI 0,SN] 93)).heap[w.heap.size+1]?=some (.cells #[VI 0,VI 0,SN,VI 0,VI 0,SN,VI 0,VI 0,SN] 93 (0,0))):=by
  have:=er (w.alloc (Obj.cells #[VI k.i.sets,VI k.i.ways,.slice a1 k.i.es.length c1,VI k.d.sets,VI k.d.ways,.slice a2 k.d.es.length c2,VI k.p.sets,VI k.p.ways,.slice a3 k.p.es.length c3] 41)) (Obj.cells #[VI 0,VI 0,SN,VI 0,VI 0,SN,VI 0,VI 0,SN] 93);simp only [World.size_alloc] at this;exact this
 have l1:((w.alloc (Obj.cells #[VI k.i.sets,VI k.i.ways,.slice a1 k.i.es.length c1,VI k.d.sets,VI k.d.ways,.slice a2 k.d.es.length c2,VI k.p.sets,VI k.p.ways,.slice a3 k.p.es.length c3] 41)).alloc (Obj.cells #[VI 0,VI 0,SN,VI 0,VI 0,SN,VI 0,VI 0,SN] 93)).heap.size=w.heap.size+2:=by simp
 go_enter Tryz.func69,Tryz.ntmps69;go_wp2_with fail;generalize ((w.alloc (Obj.cells #[VI k.i.sets,VI k.i.ways,.slice a1 k.i.es.length c1,VI k.d.sets,VI k.d.ways,.slice a2 k.d.es.length c2,VI k.p.sets,VI k.p.ways,.slice a3 k.p.es.length c3] 41)).alloc (Obj.cells #[VI 0,VI 0,SN,VI 0,VI 0,SN,VI 0,VI 0,SN] 93))=u0 at n1 H1 H2 l1 |-;have A1:=n1;have I1:=H1;have J1:=H2;clear n1 H1 H2;refine (pr _ k.i u0 (HT1.out u0 A1)).mono ?_;rw [HQ1.out];rintro e z1 ⟨⟨s1,y1,t1,x1,cc1,rfl,hv1⟩,nz1⟩;have HV1:Hid _:=hv1;have m1:=nz1.alloc nz1.size (Obj.cells #[VI s1,VI y1,.slice t1 x1 cc1] 88);have mz1:=(Below.refl z1.heap.size z1).alloc nle (Obj.cells #[VI s1,VI y1,.slice t1 x1 cc1] 88);have B11:Hid ((z1.alloc (Obj.cells #[VI s1,VI y1,.slice t1 x1 cc1] 88)).heap[z1.heap.size]?=some (.cells #[VI s1,VI y1,.slice t1 x1 cc1] 88 (0,0))):=er z1 _;have A2:=bst A1 m1;have J2:=ah J1 m1;have I2:=ah I1 m1;have IZ1:=da (ah I1 nz1).out;have lz1:=(hpl (ah I1 nz1).out);have ls1:=nz1.size;have lt1:z1.heap.size<(z1.alloc (Obj.cells #[VI s1,VI y1,.slice t1 x1 cc1] 88)).heap.size:=by simp
 obtain ⟨b0,b1,b2,b3,b4,b5,b6,b7,b8⟩:=IZ1;clear hv1 nz1;go_wp2_with fail;generalize z1.alloc (Obj.cells #[VI s1,VI y1,.slice t1 x1 cc1] 88)=u1 at m1 mz1 B11 A2 J2 I2 lt1 |-;clear b0 b1 b2 b3 b4 b5 b6 b7 b8;refine (pr _ k.d u1 (HT2.out u1 A2)).mono ?_;rw [HQ2.out];rintro e z2 ⟨⟨s2,y2,t2,x2,cc2,rfl,hv2⟩,nz2⟩;have HV2:Hid _:=hv2;have m2:=nz2.alloc nz2.size (Obj.cells #[VI s2,VI y2,.slice t2 x2 cc2] 88);have mz2:=(Below.refl z2.heap.size z2).alloc nle (Obj.cells #[VI s2,VI y2,.slice t2 x2 cc2] 88);have B22:Hid ((z2.alloc (Obj.cells #[VI s2,VI y2,.slice t2 x2 cc2] 88)).heap[z2.heap.size]?=some (.cells #[VI s2,VI y2,.slice t2 x2 cc2] 88 (0,0))):=er z2 _;have A3:=bst A2 m2;have J3:=ah J2 m2;have I3:=ah I2 m2;have B21:=ah B11 m2;have IZ2:=da (ah I2 nz2).out;have lz2:=(hpl (ah I2 nz2).out);have ls2:=nz2.size;have lt2:z2.heap.size<(z2.alloc (Obj.cells #[VI s2,VI y2,.slice t2 x2 cc2] 88)).heap.size:=by simp
 obtain ⟨b0,b1,b2,b3,b4,b5,b6,b7,b8⟩:=IZ2;clear hv2 nz2;go_wp2_with fail;generalize z2.alloc (Obj.cells #[VI s2,VI y2,.slice t2 x2 cc2] 88)=u2 at m2 mz2 B22 A3 J3 I3 lt2 B21 |-;clear b0 b1 b2 b3 b4 b5 b6 b7 b8;refine (vg _ k.p u2 (HT3.out u2 A3)).mono ?_;rw [HQ3.out];rintro e z3 ⟨⟨s3,y3,t3,x3,cc3,rfl,hv3⟩,nz3⟩;have HV3:Hid _:=hv3;have A4:=bst A3 nz3;have J4:=ah J3 nz3;have B31:=ah B21 nz3;have B32:=ah B22 nz3;have q31:=(hpl B31.out);have q32:=(hpl B32.out);have q33:=(hpl J4.out);clear hv3;obtain ⟨p0,p1,p2⟩:=(aA B31.out).1;obtain ⟨p3,p4,p5⟩:=(aA B32.out).1;obtain ⟨d0,d1,d2,d3,d4,d5,d6,d7,d8⟩:=da J4.out;have ff:=qB J4.out;have f0:=ff 0;have f1:=ff 1;have f2:=ff 2;have f3:=ff 3;have f4:=ff 4;have f5:=ff 5;have f6:=ff 6;have f7:=ff 7;have f8:=ff 8;clear ff;have r31:z1.heap.size≠z3.heap.size:=by omega
 have r32:z2.heap.size≠z3.heap.size:=by omega
 have r33:w.heap.size+1≠z3.heap.size:=by omega
 by_cases hall:q1=true∧q2=true∧q3=true
 ·obtain ⟨rfl,rfl,rfl⟩:=hall;obtain ⟨gi,rfl,rfl,rfl,rfl,rfl,oi⟩:=HV1.out (by trivial);obtain ⟨gd,rfl,rfl,rfl,rfl,rfl,od⟩:=HV2.out (by trivial);obtain ⟨gp,rfl,rfl,rfl,rfl,rfl,op⟩:=HV3.out (by trivial);have lgi:=(bI oi).2;have lgd:=(bI od).2;have lgp:=(bI op).2;simp only at lgi lgd lgp;have oi':=aj (aj (aj oi mz1) m2) nz3;have od':=aj (aj od mz2) nz3;have s1':=m2.size;have s2':=nz3.size;have s3':=m1.size;go_wp2_with fail;refine bodyPost_ret (v:=.tuple #[.agg (iw k gi gd gp),.bool true]) (by simp [results,Tryz.results69,go_sem,iw,d0,d1,d2,d3,d4,d5,d6,d7,d8,q33]) rfl ⟨⟨gi,gd,gp,rfl,?_⟩,(Er A4 (by omega) _ _ _ _ _ _ _ _ _).alloc (by simp;omega) _⟩;have g9:=gb9 z3 (w.heap.size+1);exact RowsAt.keep ⟨aJ (aG oi' (g9 _ _ _ _ _ _ _ _ _) (by omega)) (by omega),aJ (aG od' (g9 _ _ _ _ _ _ _ _ _) (by omega)) (by omega),aJ (aG op (g9 _ _ _ _ _ _ _ _ _) (by omega)) (by omega),by omega,by omega,by omega⟩ ((brf).alloc nle _)
 ·have hall':(q1 && q2 && q3)=false:=by
   cases q1 <;> cases q2 <;> cases q3 <;> simp at hall |-
  cases q1 <;> cases q2 <;> cases q3;all_goals first | (exfalso;simp at hall';done) | skip
  all_goals
   go_wp2_with fail;exact bodyPost_ret (v:=.tuple #[.agg #[VI 0,VI 0,SN,VI 0,VI 0,SN,VI 0,VI 0,SN],.bool false]) (by simp [results,Tryz.results69,go_sem,d0,d1,d2,d3,d4,d5,d6,d7,d8,q33]) rfl ⟨rfl,(Er A4 (by omega) _ _ _ _ _ _ _ _ _).alloc (by simp;omega) _⟩
end Go.Proofs.YtkenjknmfhoppaaGreat
