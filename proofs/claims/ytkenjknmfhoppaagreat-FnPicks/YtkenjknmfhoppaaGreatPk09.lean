import Derived.Test.YtkenjknmfhoppaaGreatPk08
import Derived.StillTail
import Derived.Maps.RangeWalk
namespace Go.Proofs.YtkenjknmfhoppaaGreat
open Go.RowKit
set_option linter.unusedVariables false
set_option maxHeartbeats 6400000
set_option maxRecDepth 20000
def eC (zs:List Int):List Value:=zs.map (Value.int .u8)
theorem En {e:TypeId} {w:World} {g base:Nat} {zs:List Int} (h:Blk e w g zs) (hb:base<=g) (hl:zs.length<=1048576):w.ownsRow base e 1 (SL g zs.length zs.length) zs.length (eC zs):=
 ⟨by simp [eC],.inr ⟨g,zs.length,(zs.map (Value.int .u8)).toArray,rfl,hb,h,nle,by unfold maxLen;omega,by simp,by simp [eC,List.take_of_length_le]⟩⟩
theorem xU (zs:List Int):∀u∈eC zs,u.oneCell'=true:=tZ zs
theorem Byt.rowC {w:World} {a:Option Addr} {len:Nat} {zs:List Int} (h:Byt w a len zs):RowC w a len 1 (eC zs):=by
 obtain ⟨h1,h2,h3⟩:=h;refine ⟨by simp [eC,h1],?_⟩;rcases h3 with h3 | ⟨b,off,rfl,hb,hc⟩
 ·exact .inl h3
 ·refine .inr ⟨b,off,rfl,hb,fun i v hv=>?_⟩;have hi:i<len:=by
   have:=(List.getElem?_eq_some_iff.1 hv).1;simpa [eC,h1] using this
  rw [hc i hi];simp only [eC,List.getElem?_map] at hv;cases hz:zs[i]? with
  | none=>simp [hz] at hv
  | some z=>simpa [hz] using hv
theorem Byt.addr {w:World} {a:Option Addr} {len:Nat} {zs:List Int} (h:Byt w a len zs) (hl:0<len):(a=none->len=0)∧∀q,a=some q->q.spot=none:=by
 rcases h.2.2 with h3 | ⟨b,off,rfl,hb,hc⟩
 ·omega
 ·exact ⟨fun h=>(by cases h),fun q hq=>by cases hq;rfl⟩
def ul (p:PtrM) (gm cm gr cr:Nat):PtrM:=⟨some (AD gm 0),cm,some (AD gr 0),cr,p.a1,p.c1,p.a2,p.c2,p.a3,p.c3⟩
def pK (p:PtrM) (a1:Option Addr) (c1:Nat) (a2:Option Addr) (c2:Nat) (a3:Option Addr) (c3:Nat):PtrM:=⟨p.am,p.cm,p.ar,p.cr,a1,c1,a2,c2,a3,c3⟩
theorem KOwn.gb {base r:Nat} {w w':World} {v:Value} {k:KM} (h:KOwn base w v k) (hg:w.grownBy w' (some r)) (hr:r<base):KOwn base w' v k:=by
 obtain ⟨g1,c1,g2,c2,g3,c3,rfl,o1,o2,o3⟩:=h;exact ⟨g1,c1,g2,c2,g3,c3,rfl,aD o1 hg hr,aD o2 hg hr,aD o3 hg hr⟩
def KRows (base:Nat) (w:World) (q:PtrM) (k:KM):Prop:=
 w.ownsRow base 127 6 (.slice q.a1 k.i.es.length q.c1) k.i.es.length (cH k.i.es)∧w.ownsRow base 127 6 (.slice q.a2 k.d.es.length q.c2) k.d.es.length (cH k.d.es)∧w.ownsRow base 127 6 (.slice q.a3 k.p.es.length q.c3) k.p.es.length (cH k.p.es)
theorem KRows.gb {base r:Nat} {w w':World} {q:PtrM} {k:KM} (h:KRows base w q k) (hg:w.grownBy w' (some r)) (hr:r<base):KRows base w' q k:=
 ⟨aD h.1 hg hr,aD h.2.1 hg hr,aD h.2.2 hg hr⟩
theorem KRows.set {base pb:Nat} {w w':World} {q:PtrM} {k:KM} {cur:Array Value} {T:TypeId} {f:Nat × Nat} (h:KRows base w q k) (hp:w.heap[pb]?=some (.cells cur T f)) (hT:T≠127) (hg:w.grownBy w' (some pb)):KRows base w' q k:=
 ⟨bA h.1 hp hT hg,bA h.2.1 hp hT hg,bA h.2.2 hp hT hg⟩
theorem KRows.keep {base:Nat} {w w':World} {q:PtrM} {k:KM} (h:KRows base w q k) (hb:Bw w w'):KRows base w' q k:=
 ⟨aq h.1 hb,aq h.2.1 hb,aq h.2.2 hb⟩
theorem jA {base:Nat} {w:World} {t:TlbM} {a:Option Addr} {c:Nat} (ho:w.ownsRow base 127 6 (.slice a t.es.length c) t.es.length (cH t.es)) (hk:gy t):TlbAt w (.agg #[VI t.sets,VI t.ways,.slice a t.es.length c]) t:=by
 have hr:=eI ho;rcases ho.2 with ⟨h2,h3⟩ | ⟨g',cap',cur,h2,hb,hg,hc1,hc2,_⟩
 ·simp only [Value.slice.injEq] at h2;obtain ⟨rfl,h4,rfl⟩:=h2;exact ⟨none,0,rfl,hr,hk.1,hk.2.1,hk.2.2.1,hk.2.2.2,by omega,by omega,fun _=>⟨h4,rfl⟩,fun q hq=>(by cases hq)⟩
 ·simp only [Value.slice.injEq] at h2;obtain ⟨rfl,_,rfl⟩:=h2;exact ⟨some (AD g' 0),_,rfl,hr,hk.1,hk.2.1,hk.2.2.1,hk.2.2.2,hc1,by unfold maxLen at hc2;omega,(by intro h;cases h),(by intro q hq;cases hq;rfl)⟩
theorem KRows.at {base:Nat} {w:World} {q:PtrM} {k:KM} (h:KRows base w q k) (hk:kOk k):KAt w (.agg (kA q k)) k:=
 ⟨_,_,_,_,_,_,rfl,jA h.1 hk.1,jA h.2.1 hk.2.1,jA h.2.2 hk.2.2⟩
theorem dP {base size n c:Nat} {e:TypeId} {w:World} {a:Option Addr} {cs:List Value} (h:w.ownsRow base e size (.slice a n c) n cs) (q:Addr) (hq:a=some q):base<=q.block∧q.block<w.heap.size:=by
 subst hq;exact (db h).2
theorem KRows.ptrs {base:Nat} {w:World} {p:PtrM} {k:KM} (h:KRows base w p k) (q:Addr) (hq:p.a1=some q∨p.a2=some q∨p.a3=some q):base<=q.block∧q.block<w.heap.size:=by
 rcases hq with hq | hq | hq
 ·exact dP h.1 q hq
 ·exact dP h.2.1 q hq
 ·exact dP h.2.2 q hq
theorem KOwn.rows {base:Nat} {w:World} {v:Value} {k:KM} (h:KOwn base w v k):∃a1 c1 a2 c2 a3 c3,∀p,v=.agg (kA (pK p a1 c1 a2 c2 a3 c3) k)∧KRows base w (pK p a1 c1 a2 c2 a3 c3) k:=by
 obtain ⟨g1,c1,g2,c2,g3,c3,rfl,o1,o2,o3⟩:=h;exact ⟨some (AD g1 0),c1,some (AD g2 0),c2,some (AD g3 0),c3,fun p=>⟨rfl,o1,o2,o3⟩⟩
theorem KAt.ok {w:World} {v:Value} {k:KM} (h:KAt w v k):kOk k:=by
 obtain ⟨a1,c1,a2,c2,a3,c3,rfl,h1,h2,h3⟩:=h;exact ⟨h1.ok,h2.ok,h3.ok⟩
theorem uH (p q:PtrM) (h:HartM) (k:KM):ky (aj p h) 12 (kA q k).toList=aj (pK p q.a1 q.c1 q.a2 q.c2 q.a3 q.c3) (withK h k):=by
 simp [ky,aj,kA,pK,withK]
theorem Eo (p:PtrM) (k:KM):(kA p k).all (·.oneCell')=true:=by
 simp [kA,Value.oneCell']
theorem kI:(Tryz.prog.info? 41).map (·.size)=some 9:=by kernel_rfl
theorem Ai (p:PtrM) (h:HartM) (w:World) (hi:HartIn w p h) (hm0:0<h.mem.length) (hm1:h.mem.length<=1048576) (hr1:h.regs.length<=1048576):
 Calls Tryz.prog 50 #[.agg (aj p h)] w fun e w'=>(∃p',e=.returned (.agg (aj p' h))∧HartIn w' p' h∧∀q,some q∈aU p'->w.heap.size<=q.block)∧Bw w w':=by
 have HI:=hid hi;have HB:=hid hi.mem.rowC;have HBa:Hid ((p.am=none->h.mem.length=0∧p.cm=0)∧∀q,p.am=some q->q.spot=none):=⟨fun hh=>absurd ((hi.mem.addr hm0).1 hh) (by omega),(hi.mem.addr hm0).2⟩;have HR:=hid hi.regs;have HRa:=hid hi.rega;have HK:=hid hi.ks;have HZ:=hid hi.mem.2.1;have HP:Hid (∀gm cm gr cr,((aj p h).setIfInBounds 0 (SL gm h.mem.length cm)).setIfInBounds 1 (SL gr h.regs.length cr)=aj (ul p gm cm gr cr) h):=fun gm cm gr cr=>rfl;have hsz:=eJ p h;have g0:(aj p h)[0]?=some (.slice p.am h.mem.length p.cm):=rfl;have g1:(aj p h)[1]?=some (.slice p.ar h.regs.length p.cr):=rfl;have HO:=hid (fP p h);have HKp:Hid (∀x y,((((aj p h).setIfInBounds 0 x).setIfInBounds 1 y).toList.drop 12).take 9=(kA p h.k).toList):=fun x y=>by simp [aj,kA]
 generalize aj p h=C at *;obtain ⟨M,hM⟩:∃M,h.mem.length=M:=⟨_,rfl⟩;obtain ⟨N,hN⟩:∃N,h.regs.length=N:=⟨_,rfl⟩;rw [hM] at HB HBa g0 hm0 hm1 HP;rw [hN] at HR HRa g1 hr1 HP;have HM:=hid hM;have HN:=hid hN;clear hi hM hN;go_enter Tryz.func50,Tryz.ntmps50;go_upto_region 1 with fail;obtain ⟨v1,Ev1,F⟩:=ax2 w C fI 43 43;rw [Ev1.out];clear Ev1;obtain ⟨h3,h6,l1,n1⟩:=F;have H3:Hid _:=h3;have H6:Hid _:=h6;have b1:w.heap.size<v1.heap.size:=by omega
 have b2:w.heap.size+1<v1.heap.size:=by omega
 have c0:=ab h3 0 g0;have OE:=OwnC.new 5 1 v1 [] 0 rfl (by decide);have nE:=(Below.refl v1.heap.size v1).alloc nle (Obj.cells #[] 5);clear h3 h6 l1;go_upto_region 2 with (at_builtin;refine hU _ rfl (.tmp 3) (.tmp 5) 22 rfl 5 Tryz.underlying22 (.int .u8 0) 1 1 Tryz.infoB rfl (by decide) v1.heap.size v1.heap.size 0 0 [] rfl OE p.am M p.cm (eC h.mem) rfl HBa.out.1 HBa.out.2 (RowC.keep (RowC.keep HB.out n1) nE) (xU _) (by omega) (by omega) v1.heap.size v1 nE nle ?_;intro g2 cap2 v2 o2 n2;have c0:=ab (ae H3.out n2 b1) 0 g0;have f0:=ap (ae H3.out n2 b1) 0;have b3:=ltl b1 n2.size;clear OE nE);simp only [Nat.zero_add,List.nil_append] at o2 |-;have f2:=o2.facts;have hg1:=f2.2.1;have hg2:=f2.2.2.1;have HC2:Hid (M<=cap2∧cap2<=9223372036854775807):=⟨f2.2.2.2.1,by have:=f2.2.2.2.2;unfold maxLen at this;exact this⟩;have ng':g2≠w.heap.size:=by omega
 have n12:=bP (bst n1 n2) nle 0 (SL g2 M cap2);have K3:Hid _:=bC (ae H3.out n2 b1) 0 (SL g2 M cap2);have K6:Hid _:=cx (ae H6.out n2 b2) 0 (SL g2 M cap2) (show w.heap.size+1≠w.heap.size by omega);have O2:Hid _:=OwnC.gb o2 (au (ak v2 (some w.heap.size)) 0 (SL g2 M cap2)) ng';have z2:v1.heap.size<=(v2.setCell (AD w.heap.size 0) (SL g2 M cap2)).heap.size:=by simp;exact n2.size
 have hg2':g2<(v2.setCell (AD w.heap.size 0) (SL g2 M cap2)).heap.size:=by simp;exact hg2
 generalize v2.setCell (AD w.heap.size 0) (SL g2 M cap2)=v3 at n12 K3 K6 O2 z2 hg2' |-;clear o2 f2 n2 H3 H6 c0 n1 hg2 HB HBa;have g1':(C.setIfInBounds 0 (SL g2 M cap2))[1]?=some (.slice p.ar N p.cr):=by
  rw [Array.getElem?_setIfInBounds_ne (by omega)];exact g1
 have c1:=ab K3.out 1 g1';have b4:w.heap.size<v3.heap.size:=by omega
 have b5:w.heap.size+1<v3.heap.size:=by omega
 have OE:=OwnC.new 29 1 v3 [] 0 rfl (by decide);have nE:=(Below.refl v3.heap.size v3).alloc nle (Obj.cells #[] 29);go_upto_region 3 with (at_builtin;refine hU _ rfl (.tmp 8) (.tmp 10) 28 rfl 29 Tryz.underlying28 (VU 0) 1 8 Tryz.infoU rfl (by decide) v3.heap.size v3.heap.size 0 0 [] rfl OE p.ar N p.cr (dm h.regs) rfl HRa.out.1 HRa.out.2 (RowC.keep (RowC.keep HR.out n12) nE) (qI _) (by omega) (by omega) v3.heap.size v3 nE nle ?_;intro g4 cap4 v4 o4 n4;have c1:=ab (ae K3.out n4 b4) 1 g1';have f1:=ap (ae K3.out n4 b4) 1;have b6:=ltl b4 n4.size;clear OE nE);simp only [Nat.zero_add,List.nil_append] at o4 |-;have f4:=o4.facts;have hh1:=f4.2.1;have hh2:=f4.2.2.1;have HC4:Hid (N<=cap4∧cap4<=9223372036854775807):=⟨f4.2.2.2.1,by have:=f4.2.2.2.2;unfold maxLen at this;exact this⟩;have nh':g4≠w.heap.size:=by omega
 have n14:=bP (bst n12 n4) nle 1 (SL g4 N cap4);have J3:Hid _:=bC (ae K3.out n4 b4) 1 (SL g4 N cap4);have J6:Hid _:=cx (ae K6.out n4 b5) 1 (SL g4 N cap4) (show w.heap.size+1≠w.heap.size by omega);have O4:Hid _:=OwnC.gb o4 (au (ak v4 (some w.heap.size)) 1 (SL g4 N cap4)) nh';have O5:Hid _:=OwnC.gb (OwnC.keep O2.out n4 hg2') (au (ak v4 (some w.heap.size)) 1 (SL g4 N cap4)) ng';have z4:v3.heap.size<=(v4.setCell (AD w.heap.size 1) (SL g4 N cap4)).heap.size:=by simp;exact n4.size
 have hh2':g4<(v4.setCell (AD w.heap.size 1) (SL g4 N cap4)).heap.size:=by simp;exact hh2
 generalize v4.setCell (AD w.heap.size 1) (SL g4 N cap4)=v5 at n14 J3 J6 O4 O5 z4 hh2' |-;clear o4 f4 n4 K3 K6 c1 hh2 HR HRa O2 n12;have hsz2:((C.setIfInBounds 0 (SL g2 M cap2)).setIfInBounds 1 (SL g4 N cap4)).size=21:=by simp only [Array.size_setIfInBounds,hsz]
 have HE:Hid _:=HP.out g2 cap2 g4 cap4;have HLk:Hid _:=ez (P:=Tryz.prog) (T:=41) J3.out Tryz.underlying41 rfl (o:=12) (kA p h.k).toList kI (HKp.out _ _) rfl;have HKc:=hid fun u (hu:Bw w u)=>wQ _ _ u (HK.out.keep hu);rw [show (kA p h.k).toList.toArray=kA p h.k from rfl] at HLk;generalize ((C.setIfInBounds 0 (SL g2 M cap2)).setIfInBounds 1 (SL g4 N cap4))=D at J3 hsz2 HE HLk;have b7:w.heap.size<v5.heap.size:=by omega
 have b8:w.heap.size+1<v5.heap.size:=by omega
 have HKK:=hid HK.out.ok;generalize kA p h.k=E at *;go_wp2_with (first | ((with_reducible refine aZ ?_ HLk.out ?_);(exact rfl)));refine (HKc.out v5 n14).mono ?_;rintro e v6 ⟨⟨x,rfl,hx⟩,n6⟩;obtain ⟨a1,c1,a2,c2,a3,c3,hxe⟩:=hx.rows;have hx0:=(hxe p).1;subst hx0;have HX:=hid ((hxe p).2);clear hxe hx;have I3:Hid _:=ae J3.out n6 b7;have I6:Hid _:=ae J6.out n6 b8;have n16:=bst n14 n6;have O6:Hid _:=OwnC.keep O4.out n6 hh2';have O7:Hid _:=OwnC.keep O5.out n6 (by omega);have hEs:(kA (pK p a1 c1 a2 c2 a3 c3) h.k).size=9:=rfl;have HSk:Hid _:=fG (P:=Tryz.prog) (T:=41) I3.out (o:=12) (V:=kA (pK p a1 c1 a2 c2 a3 c3) h.k) (by rw [hEs];exact kI) (by rw [hEs,hsz2];omega) (Eo _ _);have e1:=dC w.heap.size (kA (pK p a1 c1 a2 c2 a3 c3) h.k).toList 12 v6 D _ _ I3.out (by rw [hsz2];show 12+9<=21;omega);rw [HE.out,uH] at e1;have L3:Hid _:=e1;have L6:Hid _:=iw I6.out 12 (kA (pK p a1 c1 a2 c2 a3 c3) h.k).toList (show w.heap.size+1≠w.heap.size by omega);have n17:=aJ (Nat.le_refl w.heap.size) (kA (pK p a1 c1 a2 c2 a3 c3) h.k).toList 12 v6 n16;have gG:=aG w.heap.size (kA (pK p a1 c1 a2 c2 a3 c3) h.k).toList 12 v6 v6 (ak v6 _);have O8:Hid _:=OwnC.gb O6.out gG nh';have O9:Hid _:=OwnC.gb O7.out gG ng';have HX2:=hid (KRows.gb HX.out gG b7);have hDD:(aj (pK (ul p g2 cap2 g4 cap4) (pK p a1 c1 a2 c2 a3 c3).a1 (pK p a1 c1 a2 c2 a3 c3).c1 (pK p a1 c1 a2 c2 a3 c3).a2 (pK p a1 c1 a2 c2 a3 c3).c2 (pK p a1 c1 a2 c2 a3 c3).a3 (pK p a1 c1 a2 c2 a3 c3).c3) (withK h h.k)).size=21:=rfl;have hone:=fP (pK (ul p g2 cap2 g4 cap4) (pK p a1 c1 a2 c2 a3 c3).a1 (pK p a1 c1 a2 c2 a3 c3).c1 (pK p a1 c1 a2 c2 a3 c3).a2 (pK p a1 c1 a2 c2 a3 c3).c2 (pK p a1 c1 a2 c2 a3 c3).a3 (pK p a1 c1 a2 c2 a3 c3).c3) (withK h h.k);have HFin:Hid (aj (pK (ul p g2 cap2 g4 cap4) (pK p a1 c1 a2 c2 a3 c3).a1 (pK p a1 c1 a2 c2 a3 c3).c1 (pK p a1 c1 a2 c2 a3 c3).a2 (pK p a1 c1 a2 c2 a3 c3).c2 (pK p a1 c1 a2 c2 a3 c3).a3 (pK p a1 c1 a2 c2 a3 c3).c3) (withK h h.k)=aj (pK (ul p g2 cap2 g4 cap4) a1 c1 a2 c2 a3 c3) h):=rfl;generalize aj (pK (ul p g2 cap2 g4 cap4) (pK p a1 c1 a2 c2 a3 c3).a1 (pK p a1 c1 a2 c2 a3 c3).c1 (pK p a1 c1 a2 c2 a3 c3).a2 (pK p a1 c1 a2 c2 a3 c3).c2 (pK p a1 c1 a2 c2 a3 c3).a3 (pK p a1 c1 a2 c2 a3 c3).c3) (withK h h.k)=G at L3 hDD hone HFin;generalize kA (pK p a1 c1 a2 c2 a3 c3) h.k=E2 at *;go_upto_region 4 with (first | ((with_reducible refine ax ?_ ?_ HSk.out ?_);(exact rfl);(exact rfl)));generalize v6.setCells w.heap.size 12 E2.toList=v7 at L3 L6 n17 O8 O9 HX2 |-;have HLr:Hid _:=aT (P:=Tryz.prog) (T:=43) L3.out Tryz.underlying43 rfl (by rw [hDD];exact fm);have HSr:Hid _:=aR (P:=Tryz.prog) (T:=43) (V:=G) L6.out (by rw [hDD];exact fm) (by rw [hDD,eZ]) hone;have e1:=aH (V:=G) L6.out (by rw [hDD,eZ]);have e2:=aJ (show w.heap.size<=w.heap.size+1 by omega) (G).toList 0 _ n17;have eG:=aG (w.heap.size+1) (G).toList 0 v7 v7 (ak v7 _);go_wp2_with (first
  | ((with_reducible refine aZ ?_ HLr.out ?_);(exact rfl))
  | ((with_reducible refine ax ?_ ?_ HSr.out ?_);(exact rfl);(exact rfl)))
 refine dE (b:=w.heap.size+1) Tryz.results50 rfl (bE (P:=Tryz.prog) e1 Tryz.underlying43 rfl (by rw [hDD];exact fm)) rfl ?_;have OA:=OwnC.gb O8.out eG (show g4≠w.heap.size+1 by omega);have OB:=OwnC.gb O9.out eG (show g2≠w.heap.size+1 by omega);have hX3:=KRows.gb HX2.out eG b8;have hks:=KRows.ptrs hX3;simp only [pK] at hks;refine ⟨⟨pK (ul p g2 cap2 g4 cap4) a1 c1 a2 c2 a3 c3,by rw [HFin.out],?_,?_⟩,e2⟩
 rotate_left 1
 ·intro q hq;simp only [aU,pK,ul,List.mem_cons,List.not_mem_nil,or_false] at hq;rcases hq with hq | hq | hq | hq | hq
  ·cases hq;show w.heap.size<=g2;omega
  ·cases hq;show w.heap.size<=g4;omega
  ·have:=(hks q (.inl hq.symm)).1;omega
  ·have:=(hks q (.inr (.inl hq.symm))).1;omega
  ·have:=(hks q (.inr (.inr hq.symm))).1;omega
 refine ⟨?_,?_,?_,?_,⟨fun hh=>(by cases hh),fun q hq=>by cases hq;rfl⟩,?_,?_⟩
 ·have:=OwnB.byt (e:=5) (zs:=h.mem) OB HZ.out;rw [HM.out];exact this
 ·rw [HM.out];exact HC2.out
 ·rw [HN.out];exact OA.row
 ·rw [HN.out];exact HC4.out
 ·exact KRows.at (q:=pK (ul p g2 cap2 g4 cap4) a1 c1 a2 c2 a3 c3) hX3 HKK.out
 ·intro q hq;simp only [aU,pK,ul,List.mem_cons,List.not_mem_nil,or_false] at hq;rcases hq with hq | hq | hq | hq | hq
  ·cases hq;exact (OwnC.facts OB).2.2.1
  ·cases hq;exact (OwnC.facts OA).2.2.1
  ·exact (hks q (.inl hq.symm)).2
  ·exact (hks q (.inr (.inl hq.symm))).2
  ·exact (hks q (.inr (.inr hq.symm))).2
section
variable {P:Program} {ops:Array Oper}
def rM (ops:Array Oper) (j:Nat):Option Tmp:=(ops[j]?).bind (·.dst)
structure Head (ops:Array Oper) (ws:List Nat) (z s i:Nat) (o:Oper) (d:Tmp):Prop where
 op:ops[i]?=some o
 dst:o.dst=some d
 lt:d<s
 guard:i∈ws->o.guard=none
 apart:∀j,j<z->j≠i->rM ops j≠some d
 looks:∀j t,j<z->rM ops j=some t->t∈o.looksAt ops->j<i∧Region.waitsFor .any ops i j=true∧(i∈ws∨j∉ws)
 sink:∃j,i<j∧j<z+1∧Region.waitsFor .any ops j i=true
structure Fr (ops:Array Oper) (ws:List Nat) (z:Nat) (a A:Act) (S:Nat->Prop) (p:Nat->Value) (b:Act):Prop where
 defers:b.defers=a.defers
 size:b.tmps.size=a.tmps.size
 old:∀d:Nat,(∀j,j<z->S j->rM ops j≠some d)->b.tmps[d]?=a.tmps[d]?
 new:∀(d:Nat) j,j<z->S j->j∉ws->rM ops j=some d->b.tmps[d]?=A.tmps[d]?
 wild:∀(d:Nat) j,j<z->S j->j∈ws->rM ops j=some d->b.tmps[d]?=some (p j)
theorem F0 {b:Act} {d:Nat} {x:Value} (h:d<b.tmps.size):(b.put (some d) x).tmps[d]?=some x:=by
 simp [Act.put,h]
theorem xu {b:Act} {e:Option Tmp} {d:Nat} {x:Value} (h:e≠some d):(b.put e x).tmps[d]?=b.tmps[d]?:=by
 cases e with
 | none=>rfl
 | some e=>simp [Act.put,Array.getElem?_setIfInBounds_ne (show e≠d from fun he=>h (he ▸ rfl))]
theorem Head.is {ws:List Nat} {z s i:Nat} {o:Oper} {d:Tmp} (h:Head ops ws z s i o d):rM ops i=some d:=by
 rw [rM,h.op];exact h.dst
theorem Fr.put {ws:List Nat} {z s i d:Nat} {a A b:Act} {S S':Nat->Prop} {p p':Nat->Value} {o:Oper} {x:Value} (h:Fr ops ws z a A S p b) (hh:Head ops ws z s i o d) (hs:a.tmps.size=s) (hx:i∉ws->A.tmps[d]?=some x) (hp:i∈ws->p' i=x) (hp':∀j,j≠i->p' j=p j)
 (hS:∀j,j<z->(S' j↔S j∨j=i)) (hi:i<z):Fr ops ws z a A S' p' (b.put (some d) x):=by
 have one:∀e j,j<z->S' j->rM ops j=some e->(d=e∧j=i)∨(d≠e∧S j∧j≠i):=fun e j hj hSj hd=>by
  by_cases hji:j=i
  ·subst hji;exact .inl ⟨Option.some.inj (hh.is.symm.trans hd),rfl⟩
  ·refine .inr ⟨fun hde=>hh.apart j hj hji (by rw [hd,hde]),((hS j hj).1 hSj).resolve_right hji,hji⟩
 refine ⟨h.defers,by simp [Act.put,h.size],fun e he=>?_,fun e j hj hSj hw hd=>?_,fun e j hj hSj hw hd=>?_⟩
 ·have hne:d≠e:=fun hde=>he i hi ((hS i hi).2 (.inr rfl)) (by rw [hh.is,hde]);rw [xu (by simpa using hne)];exact h.old e fun j hj hj2=>he j hj ((hS j hj).2 (.inl hj2))
 ·rcases one e j hj hSj hd with ⟨rfl,rfl⟩ | ⟨h1,h2,h3⟩
  ·rw [F0 (by rw [h.size,hs];exact hh.lt),hx hw]
  ·rw [xu (by simpa using h1)];exact h.new e j hj h2 hw hd
 ·rcases one e j hj hSj hd with ⟨rfl,rfl⟩ | ⟨h1,h2,h3⟩
  ·rw [F0 (by rw [h.size,hs];exact hh.lt),hp hw]
  ·rw [xu (by simpa using h1),hp' j h3];exact h.wild e j hj h2 hw hd
def Closed (ops:Array Oper) (listed:Array Bool):Prop:=∀j oj,ops[j]?=some oj->listed.getD j false=true->∀e∈oj.after,Region.binds .any e=true->listed.getD e.on false=true
theorem Closed.set {listed:Array Bool} {i:Nat} (h:Closed ops listed) (hi:i∈Region.ready .any ops listed):Closed ops (listed.setIfInBounds i true):=by
 obtain ⟨_,oi,hoi,hall⟩:=mem_ready.1 hi;intro j oj hj hl e he hb;by_cases hij:i=j
 ·subst hij;have:oj=oi:=Option.some.inj (hj.symm.trans hoi);subst this;exact getD_set_true (hall e he hb)
 ·rw [getD_set_ne false hij] at hl;exact getD_set_true (h j oj hj hl e he hb)
theorem xy {listed:Array Bool} {i j:Nat} (hc:Closed ops listed) (hi:listed.getD i false=true) (hw:Region.waitsFor .any ops i j=true):listed.getD j false=true:=by
 obtain ⟨o,ho,e,he,hb,hon⟩:=Region.waitsFor_spec hw;rw [<-hon];exact hc i o ho hi e he hb
theorem xz {listed:Array Bool} {i:Nat} (h:listed.getD i true=false):listed.getD i false=false:=by
 rcases Nat.lt_or_ge i listed.size with h' | h'
 ·simp [h'] at h |-;exact h
 ·simp [Array.getElem?_eq_none h'] at h
def WildAt (P:Program) (o:Oper) (a:Act) (w:World) (K:Value->World->Prop):Prop:=
 (∃x w',(execOp a.eval o).run P w=.ok (.value x) w'∧K x w')∨(∃f args,(execOp a.eval o).run P w=.ok (.enter f args) w∧Calls P f args w fun e w'=>∃x,e=.returned x∧K x w')
theorem WildAt.wp {Q:Exit->Act->World->Prop} {o:Oper} {a b:Act} {w:World} {K:Value->World->Prop} {K':Act->World->Prop} (h:WildAt P o a w K) (he:execOp b.eval o=execOp a.eval o) (hK:∀x w',K x w'->K' (b.put o.dst x) w'):o.wp P b w K' Q:=by
 unfold Oper.wp;rw [he];rcases h with ⟨x,w',h1,h2⟩ | ⟨f,args,h1,h2⟩
 ·rw [h1];exact hK x w' h2
 ·rw [h1];refine h2.mono ?_;rintro e w' ⟨x,rfl,hx⟩;exact hK x w' hx
end
section
variable {P:Program} {ops:Array Oper} {Q:Exit->Act->World->Prop} {F:World->Prop} {c:Nat}
def bw (P:Program) (ops:Array Oper) (Q:Exit->Act->World->Prop) (F:World->Prop) (c:Nat):Nat->Array Bool->Act->World->Prop
 | 0,listed,a,w=>Region.ready .any ops listed=[]∧Q .normal a w
 | fuel+1,listed,a,w=>
  (Region.ready .any ops listed=[]->Q .normal a w)∧
  ∀i∈Region.ready .any ops listed,wpOp P ops Q i (fun a' w'=>((listed.setIfInBounds i true).getD c false=false->F w')∧bw P ops Q F c fuel (listed.setIfInBounds i true) a' w') a w
theorem tT:∀(fuel:Nat) (listed:Array Bool) (a:Act) (w:World),bw P ops Q F c fuel listed a w->wpAny P .any ops Q fuel listed a w
 | 0,_,_,_,h=>h
 | fuel+1,_,_,_,h=>⟨h.1,fun i hi=>wpOp_mono (fun a' w' h'=>tT fuel _ a' w' h'.2) (h.2 i hi)⟩
theorem lK {i:Nat} {oi:Oper} {v:Value} (hi:ops[i]?=some oi) (hic:i≠c) (hsel:∀(j:Nat) (o:Oper) cs b,ops[j]?=some o->o.op≠.select cs b)
 (hQ:∀x a w,Q (.panic x) (a.put oi.dst v) w->Q (.panic x) a w):
 ∀(fuel:Nat) (listed:Array Bool) (a:Act) (w:World),Closed ops listed->
  (∀j oj,ops[j]?=some oj->j≠i->listed.getD j true=false->(∀e∈oj.after,Region.binds .any e=true->e.on≠i)->oi.apart ops oj=true)->
  i∈Region.ready .any ops listed->YieldsIf P ops (fun w=>∃l,Closed ops l∧l.getD i true=false∧(l.getD c false=false->F w)) oi v a->(listed.getD c false=false->F w)->
  bw P ops Q F c fuel (listed.setIfInBounds i true) (a.put oi.dst v) w->bw P ops Q F c (fuel+1) listed a w:=by
 intro fuel
 induction fuel with
 | zero=>
  intro listed a w hc _ hr hy hS H;refine ⟨fun h=>(by rw [h] at hr;cases hr),fun j hj=>?_⟩;by_cases hji:j=i
  ·subst hji;exact hy.wpOp hi ⟨listed,hc,(mem_ready.1 hr).1,hS⟩ ⟨fun h=>hS (by rwa [getD_set_ne false hic] at h),H⟩
  ·have:=ready_mono hj hji;rw [H.1] at this;cases this
 | succ fuel ih=>
  intro listed a w hc hfree hr hy hS H;refine ⟨fun h=>(by rw [h] at hr;cases hr),fun j hj=>?_⟩;by_cases hji:j=i
  ·subst hji;exact hy.wpOp hi ⟨listed,hc,(mem_ready.1 hr).1,hS⟩ ⟨fun h=>hS (by rwa [getD_set_ne false hic] at h),H⟩
  ·have h1:=H.2 j (ready_mono hj hji);obtain ⟨hjun,oj,hoj,hall⟩:=mem_ready.1 hj;have hnot:∀e∈oj.after,Region.binds .any e=true->e.on≠i:=fun e he hb heq=>by
    have h1:=hall e he hb;have h0:=(mem_ready.1 hr).1;rw [heq] at h1;rcases Nat.lt_or_ge i listed.size with h' | h'
    ·simp [h'] at h0 h1;rw [h0] at h1;cases h1
    ·simp [Array.getElem?_eq_none h'] at h1
   have h2:=wpOp_putIf hoj (hfree j oj hoj hji hjun hnot) (fun cs b=>hsel i oi cs b hi) (fun cs b=>hsel j oj cs b hoj) hQ hy h1;have hfree':∀k ok,ops[k]?=some ok->k≠i->(listed.setIfInBounds j true).getD k true=false->
    (∀e∈ok.after,Region.binds .any e=true->e.on≠i)->oi.apart ops ok=true:=fun k ok hk hki hun hno=>by
    refine hfree k ok hk hki ?_ hno;by_cases hjk:j=k
    ·subst hjk;exact hjun
    ·rw [getD_set_ne true hjk] at hun;exact hun
   have hcm:(listed.setIfInBounds i true).setIfInBounds j true=(listed.setIfInBounds j true).setIfInBounds i true:=Array.setIfInBounds_comm _ _ (Ne.symm hji);refine wpOp_mono (fun a' w' h3=>?_) h2;have hF:(listed.setIfInBounds j true).getD c false=false->F w':=fun h=>h3.2.1 (by rw [hcm,getD_set_ne false hic];exact h);refine ⟨hF,ih (listed.setIfInBounds j true) a' w' (hc.set hj) hfree' (ready_mono hr (Ne.symm hji)) h3.1 hF ?_⟩;rw [<-hcm];exact h3.2.2
def lL (ops:Array Oper) (listed:Array Bool):Bool:=
 (List.range ops.size).all fun j=>!listed.getD j false || match ops[j]? with
  | none=>true
  | some o=>o.after.all fun e=>!Region.binds .any e || listed.getD e.on false
theorem jx {listed:Array Bool} (h:lL ops listed=true):Closed ops listed:=by
 intro j oj hj hl e he hb;have h1:=List.all_eq_true.1 h j (List.mem_range.2 (hpl hj));simp only [hj,hl,Bool.not_true,Bool.false_or] at h1;have h2:=Array.all_eq_true_iff_forall_mem.1 h1 e he;simpa [hb] using h2
def mN (ops:Array Oper):Nat->Nat->Nat->Bool
 | 0,c,i=>c == i
 | f+1,c,i=>c == i || (List.range ops.size).any fun j=>Region.waitsFor .any ops c j && mN ops f j i
theorem JP {listed:Array Bool} (hc:Closed ops listed) {i:Nat}:∀(f c:Nat),mN ops f c i=true->listed.getD c false=true->listed.getD i false=true
 | 0,c,h,hl=>by
  have:c=i:=by simpa [mN] using h
  subst this;exact hl
 | f+1,c,h,hl=>by
  simp only [mN,Bool.or_eq_true,beq_iff_eq,List.any_eq_true,Bool.and_eq_true] at h;rcases h with rfl | ⟨j,_,hw,hr⟩
  ·exact hl
  ·exact JP hc f j hr (xy hc hl hw)
theorem DF (i:Nat) {oi:Oper} (d:Tmp) (v:Value) {fuel:Nat} {listed:Array Bool} {a:Act} {w:World} (hi:ops[i]?=some oi) (hs:Region.noSelect ops=true) (hcl:lL ops listed=true) (hf:Region.free .any ops listed i=true) (hr:(Region.ready .any ops listed).contains i=true) (hic:(i != c)=true) (hrc:mN ops ops.size c i=true)
 (hQ:∀x a w,Q (.panic x) (a.put oi.dst v) w->Q (.panic x) a w) (hw:Region.wanted oi (yielded ops a.tmps)=true) (hy:∀u,F u->(execOp a.eval oi).run P u=.ok (.value v) u) (hS:F w)
 (hd:oi.dst=some d) (h:bw P ops Q F c fuel (listed.setIfInBounds i true) (a.put (some d) v) w):bw P ops Q F c (fuel+1) listed a w:=
 lK hi (by simpa using hic) (Region.noSelect_spec hs) hQ fuel listed a w (jx hcl) (Region.free_spec hi hf) (by simpa using hr)
  (.inl ⟨hw,fun u ⟨l,h1,h2,h3⟩=>hy u (h3 (by
   cases hh:l.getD c false
   ·rfl
   ·have:=JP h1 _ _ hrc hh;rw [xz h2] at this;cases this))⟩) (fun _=>hS) (by rw [hd];exact h)
theorem hqp {Q:Exit->Act->World->Prop} (H:Hid (∀x (a:Act) d z w,Q (.panic x) (a.put d z) w->Q (.panic x) a w)) {d:Option Tmp} {v:Value} (x:List PanicEntry) (a:Act) (w:World) (h:Q (.panic x) (a.put d v) w):Q (.panic x) a w:=H.out _ _ _ _ _ h
theorem He (i:Nat) {oi:Oper} (d:Tmp) (v:Value) {fuel:Nat} {listed:Array Bool} {a:Act} {w:World} (hi:ops[i]?=some oi)
 (hb:(Region.noSelect ops && lL ops listed && Region.free .any ops listed i && (Region.ready .any ops listed).contains i && (i != c) && mN ops ops.size c i && Region.wanted oi (yielded ops a.tmps) && (oi.dst == some d))=true)
 (hQ:∀x a w,Q (.panic x) (a.put oi.dst v) w->Q (.panic x) a w) (hy:∀u,F u->(execOp a.eval oi).run P u=.ok (.value v) u) (hS:F w)
 (h:bw P ops Q F c fuel (listed.setIfInBounds i true) (a.put (some d) v) w):bw P ops Q F c (fuel+1) listed a w:=by
 simp only [Bool.and_eq_true] at hb;obtain ⟨⟨⟨⟨⟨⟨⟨h1,h2⟩,h3⟩,h4⟩,h5⟩,h6⟩,h7⟩,h8⟩:=hb;exact DF i d v hi h1 h2 h3 h4 h5 h6 hQ h7 hy hS (by simpa using h8) h
theorem ao (i:Nat) {oi:Oper} (d:Tmp) (v:Value) {fuel:Nat} {listed:Array Bool} {a:Act} {w:World} (hi:ops[i]?=some oi) (hS:F w)
 (h:bw P ops Q F c fuel (listed.setIfInBounds i true) (a.put (some d) v) w)
 (hb:(Region.noSelect ops && lL ops listed && Region.free .any ops listed i && (Region.ready .any ops listed).contains i && (i != c) && mN ops ops.size c i && Region.wanted oi (yielded ops a.tmps) && (oi.dst == some d))=true:=by kernel_rfl)
 (hQ:∀x a w,Q (.panic x) (a.put oi.dst v) w->Q (.panic x) a w:=by exact fun _ _ _ h=>h) (hy:∀u,F u->(execOp a.eval oi).run P u=.ok (.value v) u:=by intro u _;kernel_rfl):bw P ops Q F c (fuel+1) listed a w:=
 He i d v hi hb hQ hy hS h
theorem DG (i:Nat) {oi:Oper} (d:Tmp) (v:Value) {fuel:Nat} {listed:Array Bool} {a:Act} {w:World} (hi:ops[i]?=some oi) (hs:Region.noSelect ops=true) (hcl:lL ops listed=true) (hf:Region.free .any ops listed i=true) (hr:(Region.ready .any ops listed).contains i=true) (hic:(i != c)=true)
 (hQ:∀x a w,Q (.panic x) (a.put oi.dst v) w->Q (.panic x) a w) (hw:Region.wanted oi (yielded ops a.tmps)=true) (hy:∀u,(execOp a.eval oi).run P u=.ok (.value v) u) (hS:listed.getD c false=true∨F w)
 (hd:oi.dst=some d) (h:bw P ops Q F c fuel (listed.setIfInBounds i true) (a.put (some d) v) w):bw P ops Q F c (fuel+1) listed a w:=
 lK hi (by simpa using hic) (Region.noSelect_spec hs) hQ fuel listed a w (jx hcl) (Region.free_spec hi hf) (by simpa using hr) (.inl ⟨hw,fun u _=>hy u⟩) (fun h0=>hS.resolve_left (by rw [h0];simp)) (by rw [hd];exact h)
theorem iZ {fuel:Nat} {listed:Array Bool} {a:Act} {w:World} (i:Nat) (hr:Region.ready .any ops listed=[i])
 (h:wpOp P ops Q i (fun a' w'=>((listed.setIfInBounds i true).getD c false=false->F w')∧bw P ops Q F c fuel (listed.setIfInBounds i true) a' w') a w):bw P ops Q F c (fuel+1) listed a w:=
 ⟨fun h0=>(by rw [hr] at h0;cases h0),fun j hj=>by
  rw [hr] at hj;have:j=i:=by simpa using hj
  subst this;exact h⟩
theorem AT {fuel:Nat} {listed:Array Bool} {a:Act} {w w':World} (i:Nat) {o:Oper} {T:TypeId} {x y:Operand} (hi:ops[i]?=some o) (hop:o.op=.store T x y) (hg:o.guard=none) (hd:o.dst=none) (hr:Region.ready .any ops listed=[i])
 {b off:Nat} {V:Value} (hx:a.eval x=PT b off) (hy:a.eval y=V) (hl:(Instr.storeAt T (PT b off) V).run P w=.ok () w') (hS:(listed.setIfInBounds i true).getD c false=true∨F w') (h:bw P ops Q F c fuel (listed.setIfInBounds i true) a w'):bw P ops Q F c (fuel+1) listed a w:=by
 refine iZ i hr ?_;unfold wpOp;simp only [hi];rw [if_pos (by simp [Region.wanted,hg])];refine .inl ?_;unfold Oper.wp execOp;simp only [hop,hx,hy,Sem.run_bind,hl,Result.andThen_ok,Sem.run_pure];refine ⟨fun h0=>hS.resolve_left (by rw [h0];simp),?_⟩;rw [hd];exact h
theorem cW {fuel:Nat} {listed:Array Bool} {a:Act} {w:World} (i:Nat) {o:Oper} (d:Tmp) (hi:ops[i]?=some o) {f:FuncId} {args:Array Value}
 (h:Calls P f args w fun e w'=>∃x,e=.returned x∧((listed.setIfInBounds i true).getD c false=false->F w')∧bw P ops Q F c fuel (listed.setIfInBounds i true) (a.put (some d) x) w')
 (hd:o.dst=some d:=by kernel_rfl) (hg:Region.wanted o (yielded ops a.tmps)=true:=by kernel_rfl) (hr:Region.ready .any ops listed=[i]:=by kernel_rfl) (he:(execOp a.eval o).run P w=.ok (.enter f args) w:=by kernel_rfl):bw P ops Q F c (fuel+1) listed a w:=by
 refine iZ i hr ?_;unfold wpOp;simp only [hi];rw [if_pos hg];refine .inl ?_;unfold Oper.wp;rw [he];refine h.mono ?_;rintro e w' ⟨x,rfl,hS,h2⟩;refine ⟨hS,?_⟩;rw [hd];exact h2
theorem DH {fuel:Nat} {listed:Array Bool} {a:Act} {w:World} (i:Nat) {o:Oper} (d:Tmp) (hd:o.dst=some d) (hi:ops[i]?=some o) (hg:o.guard=none) (hr:Region.ready .any ops listed=[i]) {f:FuncId} {args:Array Value} (he:(execOp a.eval o).run P w=.ok (.enter f args) w)
 (h:Calls P f args w fun e w'=>∃x,e=.returned x∧((listed.setIfInBounds i true).getD c false=false->F w')∧bw P ops Q F c fuel (listed.setIfInBounds i true) (a.put (some d) x) w'):bw P ops Q F c (fuel+1) listed a w:=
 cW i d hi h hd (by simp [Region.wanted,hg]) hr he
theorem vl {listed:Array Bool} {a:Act} {w:World} (hr:Region.ready .any ops listed=[]) (h:Q .normal a w):∀fuel,bw P ops Q F c fuel listed a w
 | 0=>⟨hr,h⟩
 | _+1=>⟨fun _=>h,by rw [hr];simp⟩
theorem dJ {fuel:Nat} {listed:Array Bool} {a:Act} {w:World} (h:Q .normal a w) (hr:Region.ready .any ops listed=[]:=by kernel_rfl):bw P ops Q F c fuel listed a w:=vl hr h _
theorem ey {fuel:Nat} {listed:Array Bool} {a:Act} {w w':World} (i x y:Nat) {o:Oper} {T:TypeId} {b off:Nat} {V:Value} (hi:ops[i]?=some o) (hl:(Instr.storeAt T (PT b off) V).run P w=.ok () w') (h:bw P ops Q F c fuel (listed.setIfInBounds i true) a w')
 (hop:o.op=.store T (.tmp x) (.tmp y):=by kernel_rfl) (hg:o.guard=none:=by kernel_rfl) (hd:o.dst=none:=by kernel_rfl) (hr:Region.ready .any ops listed=[i]:=by kernel_rfl) (hx:a.eval (.tmp x)=PT b off:=by kernel_rfl) (hy:a.eval (.tmp y)=V:=by kernel_rfl)
 (hS:(listed.setIfInBounds i true).getD c false=true∨F w':=by exact .inl (by kernel_rfl)):bw P ops Q F c (fuel+1) listed a w:=AT i hi hop hg hd hr hx hy hl hS h
theorem kU {fuel:Nat} {listed:Array Bool} {a:Act} {w:World} (i:Nat) {o:Oper} (hi:ops[i]?=some o) (h:wpList P ops Q [o] a w) (hg:Region.wanted o (yielded ops a.tmps)=true:=by kernel_rfl) (hr:Region.ready .any ops listed=[i]:=by kernel_rfl)
 (hr2:Region.ready .any ops (listed.setIfInBounds i true)=[]:=by kernel_rfl) (hc:(listed.setIfInBounds i true).getD c false=true:=by kernel_rfl):bw P ops Q F c (fuel+1) listed a w:=by
 refine iZ i hr ?_;unfold wpOp;simp only [hi];unfold wpList at h;rw [if_pos hg] at h |-;rcases h with h | h
 ·exact .inl (Oper.wp_mono (fun a' w' hQ=>⟨fun h0=>(by rw [hc] at h0;cases h0),vl hr2 hQ _⟩) h)
 ·exact .inr h
theorem az {id:Nat} {a:Act} {w:World} (F:World->Prop) (c:Nat) (h:bw P ops Q F c ops.size (Array.replicate ops.size false) a w.drew) (hm:P.follows .mixedOrders=true:=by kernel_rfl):(Code.region id ops true).wp P Q a w:=
 wp_region_any hm (tT _ _ _ _ h)
end
theorem tU {P:Program} {fn:Func} {R:Ending->World->Prop} {a:Act} {w:World} {s t:Tmp} {T:TypeId} {b:Nat} {V W:Value} (hr:fn.results=#[ResultVar.cell s T,ResultVar.tmp t]) (hs:a.tmps[s]?=some (PT b 0)) (ht:a.tmps[t]?=some W) (hl:(loadVar T (AD b 0)).run P w=.ok V w) (hd:a.defers=[]) (hR:R (.returned (.tuple #[V,W])) w):bodyPost P fn R .ret a w:=by
 refine bodyPost_ret (v:=.tuple #[V,W]) ?_ hd hR;simp [results,hr,hs,ht,asAddr,hl]
section
variable {P:Program} {ops:Array Oper} {Q:Exit->Act->World->Prop} {F:World->Prop} {c:Nat}
theorem yP {fuel:Nat} {listed:Array Bool} {a:Act} {w w':World} (i:Nat) {o:Oper} (d:Tmp) (v:Value) (hd:o.dst=some d) (hi:ops[i]?=some o) (hg:o.guard=none) (hr:Region.ready .any ops listed=[i]) (he:(execOp a.eval o).run P w=.ok (.value v) w')
 (hS:(listed.setIfInBounds i true).getD c false=false->F w') (h:bw P ops Q F c fuel (listed.setIfInBounds i true) (a.put (some d) v) w'):bw P ops Q F c (fuel+1) listed a w:=by
 refine iZ i hr ?_;unfold wpOp;simp only [hi];rw [if_pos (by simp [Region.wanted,hg])];refine .inl ?_;unfold Oper.wp;rw [he];refine ⟨hS,?_⟩;rw [hd];exact h
theorem ji {fuel:Nat} {listed:Array Bool} {a:Act} {w w':World} (i:Nat) {o:Oper} (d:Tmp) (v:Value) (hi:ops[i]?=some o) (hS:(listed.setIfInBounds i true).getD c false=false->F w') (h:bw P ops Q F c fuel (listed.setIfInBounds i true) (a.put (some d) v) w')
 (hd:o.dst=some d:=by kernel_rfl) (hg:o.guard=none:=by kernel_rfl) (hr:Region.ready .any ops listed=[i]:=by kernel_rfl) (he:(execOp a.eval o).run P w=.ok (.value v) w':=by kernel_rfl):bw P ops Q F c (fuel+1) listed a w:=yP i d v hd hi hg hr he hS h
end
theorem pY {P:Program} {ops:Array Oper} {Q:Exit->Act->World->Prop} {K:Act->World->Prop} {a:Act} {w:World} (i:Nat) {o:Oper} (d:Tmp) (hd:o.dst=some d) (hi:ops[i]?=some o) (hg:o.guard=none) {f:FuncId} {args:Array Value} (he:(execOp a.eval o).run P w=.ok (.enter f args) w)
 (h:Calls P f args w fun e w'=>∃x,e=.returned x∧K (a.put (some d) x) w'):wpOp P ops Q i K a w:=by
 unfold wpOp;simp only [hi];rw [if_pos (by simp [Region.wanted,hg])];refine .inl ?_;unfold Oper.wp;rw [he];refine h.mono ?_;rintro e w' ⟨x,rfl,h2⟩;rw [hd];exact h2
theorem pj {P:Program} {ops:Array Oper} {Q:Exit->Act->World->Prop} {K:Act->World->Prop} {a:Act} {w w':World} (i:Nat) {o:Oper} (d:Tmp) (v:Value) (hd:o.dst=some d) (hi:ops[i]?=some o) (hg:o.guard=none) (he:(execOp a.eval o).run P w=.ok (.value v) w')
 (h:K (a.put (some d) v) w'):wpOp P ops Q i K a w:=by
 unfold wpOp;simp only [hi];rw [if_pos (by simp [Region.wanted,hg])];refine .inl ?_;unfold Oper.wp;rw [he];show K (a.put o.dst v) w';rw [hd];exact h
theorem yQ {P:Program} {ops:Array Oper} {Q:Exit->Act->World->Prop} {F:World->Prop} {c:Nat} {fuel:Nat} {listed:Array Bool} {a:Act} {w:World} (i j:Nat) (hr:Region.ready .any ops listed=[i,j])
 (hi:wpOp P ops Q i (fun a' w'=>((listed.setIfInBounds i true).getD c false=false->F w')∧bw P ops Q F c fuel (listed.setIfInBounds i true) a' w') a w)
 (hj:wpOp P ops Q j (fun a' w'=>((listed.setIfInBounds j true).getD c false=false->F w')∧bw P ops Q F c fuel (listed.setIfInBounds j true) a' w') a w):bw P ops Q F c (fuel+1) listed a w:=
 ⟨fun h0=>(by rw [hr] at h0;cases h0),fun k hk=>by
  rw [hr] at hk;simp only [List.mem_cons,List.not_mem_nil,or_false] at hk;rcases hk with rfl | rfl
  ·exact hi
  ·exact hj⟩
theorem pZ {a:Act} {d e:Tmp} {u v:Value} (h:d≠e):(a.put (some d) u).put (some e) v=(a.put (some e) v).put (some d) u:=by
 show Act.mk _ _=Act.mk _ _;congr 1;exact Array.setIfInBounds_comm _ _ h
theorem BJ {P:Program} {ops:Array Oper} {Q:Exit->Act->World->Prop} {F:World->Prop} {c:Nat} {fuel:Nat} {listed L:Array Bool} {a:Act} {w:World} (k j:Nat) {ok oj:Oper} (dk dj:Tmp) {Z:Array Value} {T:TypeId} {g:FuncId} {brgs:Array Value} (R:World->Value->World->Prop)
 (ek:ops[k]?=some ok) (ej:ops[j]?=some oj) (dd:ok.dst=some dk∧oj.dst=some dj∧dk≠dj) (hg:ok.guard=none∧oj.guard=none)
 (r1:Region.ready .any ops listed=[k,j]) (r2:Region.ready .any ops (listed.setIfInBounds k true)=[j]) (r5:Region.ready .any ops (listed.setIfInBounds j true)=[k])
 (l1:(listed.setIfInBounds k true).setIfInBounds j true=L) (l2:(listed.setIfInBounds j true).setIfInBounds k true=L)
 (xk:∀u,(execOp a.eval ok).run P u=.ok (.enter g brgs) u) (xk':∀p u,(execOp (a.put (some dj) p).eval ok).run P u=.ok (.enter g brgs) u)
 (xj:∀b u,(execOp b oj).run P u=.ok (.value (PT u.heap.size 0)) (u.alloc (.cells Z T)))
 (hF:∀u,Bw w u->F u) (ck:∀u,Bw w u->Calls P g brgs u fun e w'=>(∃y,e=.returned y∧R u y w')∧Bw u w')
 (h:∀y p u v v',Bw w u->R u y v->Bw v v'->(p<u.heap.size∨v.heap.size<=p)->w.heap.size<=p->v'.heap[p]?=some (.cells Z T (0,0))->Bw w v'->bw P ops Q F c fuel L ((a.put (some dk) y).put (some dj) (PT p 0)) v'):bw P ops Q F c (fuel+2) listed a w:=by
 obtain ⟨hdk,hdj,n2⟩:=dd;obtain ⟨gk,gj⟩:=hg;have m1:=Below.refl w.heap.size w;refine yQ k j r1 ?_ ?_
 ·refine pY k dk hdk ek gk (xk w) ((ck w m1).mono ?_);rintro e u2 ⟨⟨y,rfl,hy⟩,m2⟩;refine ⟨y,rfl,fun _=>hF u2 m2,?_⟩;have A:=(bX u2 Z T).2.2;refine yP j dj _ hdj ej gj r2 (xj _ _) (fun _=>hF _ (bst m2 A)) ?_;rw [l1];exact h y _ w u2 _ m1 hy A (.inr nle) m2.size (bX u2 Z T).1 (bst m2 A)
 ·have A:=(bX w Z T).2.2;refine pj j dj _ hdj ej gj (xj _ _) ⟨fun _=>hF _ A,?_⟩;refine DH k dk hdk ek gk r5 (xk' _ _) ((ck _ A).mono ?_);rintro e u2 ⟨⟨y,rfl,hy⟩,m2⟩;have z:=(bX w Z T).2.1;have m12:=bst A m2;refine ⟨y,rfl,fun _=>hF u2 m12,?_⟩;rw [l2,pZ (Ne.symm n2)];exact h y _ _ u2 u2 A hy brf (.inl (by omega)) nle (ae (bX w Z T).1 m2 (by omega)) m12
theorem gn {P:Program} {ops:Array Oper} {Q:Exit->Act->World->Prop} {F:World->Prop} {c:Nat} (i:Nat) {oi:Oper} (d:Tmp) (v:Value) {fuel:Nat} {listed:Array Bool} {a:Act} {w:World} (hi:ops[i]?=some oi) (hS:listed.getD c false=true∨F w)
 (h:bw P ops Q F c fuel (listed.setIfInBounds i true) (a.put (some d) v) w)
 (hb:(Region.noSelect ops && lL ops listed && Region.free .any ops listed i && (Region.ready .any ops listed).contains i && (i != c) && Region.wanted oi (yielded ops a.tmps) && (oi.dst == some d))=true:=by kernel_rfl)
 (hQ:∀x a w,Q (.panic x) (a.put oi.dst v) w->Q (.panic x) a w:=by exact fun _ _ _ h=>h) (hy:∀u,(execOp a.eval oi).run P u=.ok (.value v) u:=by intro u;kernel_rfl):bw P ops Q F c (fuel+1) listed a w:=by
 simp only [Bool.and_eq_true] at hb;obtain ⟨⟨⟨⟨⟨⟨h1,h2⟩,h3⟩,h4⟩,h5⟩,h7⟩,h8⟩:=hb;exact DG i d v hi h1 h2 h3 h4 h5 hQ h7 hy hS (by simpa using h8) h
theorem Gs {P:Program} {ops:Array Oper} {Q:Exit->Act->World->Prop} {F:World->Prop} {c:Nat} {fuel:Nat} {listed L:Array Bool} {a:Act} {w:World} (k j:Nat) {ok oj:Oper} (dk dj:Tmp) {Z:Array Value} {T:TypeId} {g:FuncId} {brgs:Array Value} (R:World->Value->World->Prop)
 (ek:ops[k]?=some ok) (ej:ops[j]?=some oj) (l1:(listed.setIfInBounds k true).setIfInBounds j true=L)
 (hF:∀u,Bw w u->F u) (ck:∀u,Bw w u->Calls P g brgs u fun e w'=>(∃y,e=.returned y∧R u y w')∧Bw u w')
 (h:∀y p u v v',Bw w u->R u y v->Bw v v'->(p<u.heap.size∨v.heap.size<=p)->w.heap.size<=p->v'.heap[p]?=some (.cells Z T (0,0))->Bw w v'->bw P ops Q F c fuel L ((a.put (some dk) y).put (some dj) (PT p 0)) v')
 (dd:(ok.dst == some dk && oj.dst == some dj && dk != dj && ok.guard.isNone && oj.guard.isNone)=true:=by kernel_rfl)
 (r1:Region.ready .any ops listed=[k,j]:=by kernel_rfl) (r2:Region.ready .any ops (listed.setIfInBounds k true)=[j]:=by kernel_rfl) (r5:Region.ready .any ops (listed.setIfInBounds j true)=[k]:=by kernel_rfl) (l2:(listed.setIfInBounds j true).setIfInBounds k true=L:=by kernel_rfl)
 (xk:∀u,(execOp a.eval ok).run P u=.ok (.enter g brgs) u:=by intro u;kernel_rfl) (xk':∀p u,(execOp (a.put (some dj) p).eval ok).run P u=.ok (.enter g brgs) u:=by intro p u;kernel_rfl)
 (xj:∀b u,(execOp b oj).run P u=.ok (.value (PT u.heap.size 0)) (u.alloc (.cells Z T)):=by intro b u;kernel_rfl):bw P ops Q F c (fuel+2) listed a w:=by
 simp only [Bool.and_eq_true,beq_iff_eq,bne_iff_ne,Option.isNone_iff_eq_none] at dd;obtain ⟨⟨⟨⟨d1,d2⟩,d3⟩,g1⟩,g2⟩:=dd;exact BJ k j dk dj R ek ej ⟨d1,d2,d3⟩ ⟨g1,g2⟩ r1 r2 r5 l1 l2 xk xk' xj hF ck h
theorem ic (sv:Value) (zs:List Int) (va root:Int) (w:World) (hB:SrcAt w sv zs) (hv0:0<=va) (hv1:va<=18446744073709551615) (hr0:0<=root) (hr1:root<=18446744073709551615):
 Calls Tryz.prog 197 #[sv,VU root,VU va] w fun e w'=>AJ w.heap.size w' e (bO zs root va)∧Bw w w':=by
 have b0:=(Below.refl w.heap.size w).alloc nle (Obj.cells #[VI 0,VU 0,SN] 312);have r0:Hid ((w.alloc (Obj.cells #[VI 0,VU 0,SN] 312)).heap[w.heap.size]?=some (.cells #[VI 0,VU 0,SN] 312 (0,0))):=fE w _;have HB:=hid hB;clear hB;have hb0:0<=root%17592186044416∧root%17592186044416<17592186044416:=⟨Int.emod_nonneg _ (by omega),Int.emod_lt_of_pos _ (by omega)⟩;have HM:=hid (eX 44 root 17592186044415 rfl (by omega) hr0 hr1);unfold bO;cases hcn:de va
 ·rw [if_pos rfl];have HC:=hid hcn;clear hcn;go_enter Tryz.func197,Tryz.ntmps197;go_wp2_with fail;generalize w.alloc (Obj.cells #[VI 0,VU 0,SN] 312)=v1 at b0 r0 |-;refine (ij va v1 hv0 hv1).mono ?_;rintro e v2 ⟨rfl,rfl⟩;rw [HC.out];obtain ⟨⟨d0,d1,d2⟩,f0,f1,f2⟩:=aE r0.out;go_wp2_with fail;refine bodyPost_ret (v:=.tuple #[.agg #[VI 2,VU 0,SN],.iface 288 (.agg #[])]) (by simp [results,Tryz.results197,go_sem,d0,d1,d2]) rfl ?_;exact ⟨⟨none,0,rfl,World.ownsRow_nil _ _ _ _⟩,kT b0 nle _ _ _⟩
 ·rw [if_neg (by simp)];have HC:=hid hcn;clear hcn;obtain ⟨X,hX⟩:∃X,bD zs va 2 (root%17592186044416)=X:=⟨_,rfl⟩;have HX:=hid hX;rw [hX];clear hX;go_enter Tryz.func197,Tryz.ntmps197;go_wp2_with fail;have l1:w.heap.size<(w.alloc (Obj.cells #[VI 0,VU 0,SN] 312)).heap.size:=by simp
  generalize w.alloc (Obj.cells #[VI 0,VU 0,SN] 312)=v1 at b0 r0 l1 |-;refine (ij va v1 hv0 hv1).mono ?_;rintro e v2 ⟨rfl,rfl⟩;rw [HC.out];go_wp2_with fail;refine (dI 44 17592186044415 _ (by omega)).mono ?_;rintro e v3 ⟨rfl,rfl⟩;go_wp2_with fail;rw [HM.out];refine (qa sv zs va (root%17592186044416) 2 v3 (HB.out.keep b0) (by omega) hv0 hv1 hb0.1 hb0.2).mono ?_;rintro e v4 ⟨hw,n4⟩;rw [HX.out] at hw;obtain ⟨ra,rc,rfl,o4⟩:=hw;obtain ⟨x1,x2,x3,rs⟩:=X;simp only at o4 |-;have HO:=hid o4;clear o4;have r4:=hid (ae r0.out n4 l1);have b4:=bst b0 n4;obtain ⟨⟨d0,d1,d2⟩,f0,f1,f2⟩:=aE r4.out;obtain ⟨fv,hfv⟩:∃fv,cK x1=fv:=⟨_,rfl⟩;have HF:=hid hfv;rw [hfv];clear hfv;go_wp2_with fail;refine bodyPost_ret (v:=.tuple #[.agg #[VI x2,VU x3,.slice ra rs.length rc],fv]) (by simp [results,Tryz.results197,go_sem,d0,d1,d2]) rfl ?_;exact ⟨⟨ra,rc,by rw [HF.out],bW (aD HO.out (gb3 _ w.heap.size _ _ _) l1) (by omega)⟩,kT b4 nle _ _ _⟩
end Go.Proofs.YtkenjknmfhoppaaGreat
