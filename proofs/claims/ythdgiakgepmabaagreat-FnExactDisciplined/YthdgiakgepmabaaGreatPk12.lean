import Derived.Test.YthdgiakgepmabaaGreatPk11
namespace Go.Proofs.YthdgiakgepmabaaGreat
open Go.RowKit
set_option linter.unusedVariables false
set_option maxHeartbeats 6400000
set_option maxRecDepth 20000
def eR (zs:List Int):List Value:=zs.map (Value.int .u8)
theorem F8 (zs:List Int):∀u∈eR zs,u.oneCell'=true:=uj zs
theorem Byt.rowC {w:World} {a:Option Addr} {len:Nat} {zs:List Int} (h:Byt w a len zs):RowC w a len 1 (eR zs):=by
 obtain ⟨h1,h2,h3⟩:=h;refine ⟨by simp [eR,h1],?_⟩;rcases h3 with h3 | ⟨b,off,rfl,hb,hc⟩
 ·exact .inl h3
 ·refine .inr ⟨b,off,rfl,hb,fun i v hv=>?_⟩;have hi:i<len:=by
   have:=(List.getElem?_eq_some_iff.1 hv).1;simpa [eR,h1] using this
  rw [hc i hi];simp only [eR,List.getElem?_map] at hv;cases hz:zs[i]? with
  | none=>simp [hz] at hv
  | some z=>simpa [hz] using hv
theorem Byt.addr {w:World} {a:Option Addr} {len:Nat} {zs:List Int} (h:Byt w a len zs) (hl:0<len):(a=none->len=0)∧∀q,a=some q->q.spot=none:=by
 rcases h.2.2 with h3 | ⟨b,off,rfl,hb,hc⟩
 ·omega
 ·exact ⟨fun h=>(by cases h),fun q hq=>by cases hq;rfl⟩
def Fs (p:PtrM) (gm cm gr cr:Nat):PtrM:=⟨some (AD gm 0),cm,some (AD gr 0),cr,p.a1,p.c1,p.a2,p.c2,p.a3,p.c3⟩
def pK (p:PtrM) (a1:Option Addr) (c1:Nat) (a2:Option Addr) (c2:Nat) (a3:Option Addr) (c3:Nat):PtrM:=⟨p.am,p.cm,p.ar,p.cr,a1,c1,a2,c2,a3,c3⟩
theorem KOwn.gb {base r:Nat} {w w':World} {v:Value} {k:KM} (h:KOwn base w v k) (hg:w.grownBy w' (some r)) (hr:r<base):KOwn base w' v k:=by
 obtain ⟨g1,c1,g2,c2,g3,c3,rfl,o1,o2,o3⟩:=h;exact ⟨g1,c1,g2,c2,g3,c3,rfl,ao o1 hg hr,ao o2 hg hr,ao o3 hg hr⟩
theorem KOwn.open {base:Nat} {w:World} {v:Value} {k:KM} (h:KOwn base w v k):∃a1 c1 a2 c2 a3 c3,∀p,v=.agg (kA (pK p a1 c1 a2 c2 a3 c3) k):=by
 obtain ⟨g1,c1,g2,c2,g3,c3,rfl,o1,o2,o3⟩:=h;exact ⟨some (AD g1 0),c1,some (AD g2 0),c2,some (AD g3 0),c3,fun p=>rfl⟩
def KRows (base:Nat) (w:World) (q:PtrM) (k:KM):Prop:=
 w.ownsRow base 154 6 (.slice q.a1 k.i.es.length q.c1) k.i.es.length (bE k.i.es)∧w.ownsRow base 154 6 (.slice q.a2 k.d.es.length q.c2) k.d.es.length (bE k.d.es)∧w.ownsRow base 154 6 (.slice q.a3 k.p.es.length q.c3) k.p.es.length (bE k.p.es)
theorem KRows.gb {base r:Nat} {w w':World} {q:PtrM} {k:KM} (h:KRows base w q k) (hg:w.grownBy w' (some r)) (hr:r<base):KRows base w' q k:=
 ⟨ao h.1 hg hr,ao h.2.1 hg hr,ao h.2.2 hg hr⟩
theorem KRows.set {base pb:Nat} {w w':World} {q:PtrM} {k:KM} {cur:Array Value} {T:TypeId} {f:Nat × Nat} (h:KRows base w q k) (hp:w.heap[pb]?=some (.cells cur T f)) (hT:T≠154) (hg:w.grownBy w' (some pb)):KRows base w' q k:=
 ⟨bS h.1 hp hT hg,bS h.2.1 hp hT hg,bS h.2.2 hp hT hg⟩
theorem KRows.keep {base:Nat} {w w':World} {q:PtrM} {k:KM} (h:KRows base w q k) (hb:Bw w w'):KRows base w' q k:=
 ⟨cB h.1 hb,cB h.2.1 hb,cB h.2.2 hb⟩
theorem fN {base:Nat} {w:World} {t:TlbM} {a:Option Addr} {c:Nat} (ho:w.ownsRow base 154 6 (.slice a t.es.length c) t.es.length (bE t.es)) (hk:dX t):TlbAt w (.agg #[VI t.sets,VI t.ways,.slice a t.es.length c]) t:=by
 have hr:=cT ho;rcases ho.2 with ⟨h2,h3⟩ | ⟨g',cap',cur,h2,hb,hg,hc1,hc2,_⟩
 ·simp only [Value.slice.injEq] at h2;obtain ⟨rfl,h4,rfl⟩:=h2;exact ⟨none,0,rfl,hr,hk.1,hk.2.1,hk.2.2.1,hk.2.2.2,by omega,by omega,fun _=>⟨h4,rfl⟩,fun q hq=>(by cases hq)⟩
 ·simp only [Value.slice.injEq] at h2;obtain ⟨rfl,_,rfl⟩:=h2;exact ⟨some (AD g' 0),_,rfl,hr,hk.1,hk.2.1,hk.2.2.1,hk.2.2.2,hc1,by unfold maxLen at hc2;omega,(by intro h;cases h),(by intro q hq;cases hq;rfl)⟩
theorem KRows.at {base:Nat} {w:World} {q:PtrM} {k:KM} (h:KRows base w q k) (hk:kOk k):KAt w (.agg (kA q k)) k:=
 ⟨_,_,_,_,_,_,rfl,fN h.1 hk.1,fN h.2.1 hk.2.1,fN h.2.2 hk.2.2⟩
theorem cS {base size n c:Nat} {e:TypeId} {w:World} {a:Option Addr} {cs:List Value} (h:w.ownsRow base e size (.slice a n c) n cs) (q:Addr) (hq:a=some q):base<=q.block∧q.block<w.heap.size:=by
 subst hq;exact (bx h).2
theorem KRows.ptrs {base:Nat} {w:World} {p:PtrM} {k:KM} (h:KRows base w p k) (q:Addr) (hq:p.a1=some q∨p.a2=some q∨p.a3=some q):base<=q.block∧q.block<w.heap.size:=by
 rcases hq with hq | hq | hq
 ·exact cS h.1 q hq
 ·exact cS h.2.1 q hq
 ·exact cS h.2.2 q hq
theorem GY {B:Nat} {p:PtrM} {a1 a2 a3:Option Addr} {c1 c2 c3:Nat} (h:∀q,(a1=some q∨a2=some q∨a3=some q)->B<=q.block):From B p (pK p a1 c1 a2 c2 a3 c3):=fun q hq=>by
 simp only [dW,pK,List.mem_cons,List.not_mem_nil,or_false] at hq;rcases hq with hq | hq | hq | hq | hq
 ·exact .inl (by simp [dW,hq])
 ·exact .inl (by simp [dW,hq])
 ·exact .inr (h q (.inl hq.symm))
 ·exact .inr (h q (.inr (.inl hq.symm)))
 ·exact .inr (h q (.inr (.inr hq.symm)))
theorem IT {B:Nat} {p:PtrM} {a1 a2 a3:Option Addr} {c1 c2 c3:Nat} (hp:∀q,some q∈dW p->q.block<B) (h:∀q,(a1=some q∨a2=some q∨a3=some q)->q.block<B):∀q,some q∈dW (pK p a1 c1 a2 c2 a3 c3)->q.block<B:=fun q hq=>by
 simp only [dW,pK,List.mem_cons,List.not_mem_nil,or_false] at hq;rcases hq with hq | hq | hq | hq | hq
 ·exact hp q (by simp [dW,hq])
 ·exact hp q (by simp [dW,hq])
 ·exact h q (.inl hq.symm)
 ·exact h q (.inr (.inl hq.symm))
 ·exact h q (.inr (.inr hq.symm))
theorem KOwn.rows {base:Nat} {w:World} {v:Value} {k:KM} (h:KOwn base w v k):∃a1 c1 a2 c2 a3 c3,∀p,v=.agg (kA (pK p a1 c1 a2 c2 a3 c3) k)∧KRows base w (pK p a1 c1 a2 c2 a3 c3) k:=by
 obtain ⟨g1,c1,g2,c2,g3,c3,rfl,o1,o2,o3⟩:=h;exact ⟨some (AD g1 0),c1,some (AD g2 0),c2,some (AD g3 0),c3,fun p=>⟨rfl,o1,o2,o3⟩⟩
theorem KAt.ok {w:World} {v:Value} {k:KM} (h:KAt w v k):kOk k:=by
 obtain ⟨a1,c1,a2,c2,a3,c3,rfl,h1,h2,h3⟩:=h;exact ⟨h1.ok,h2.ok,h3.ok⟩
theorem FG (p q:PtrM) (h:HartM) (k:KM):lz (aA p h) 12 (kA q k).toList=aA (pK p q.a1 q.c1 q.a2 q.c2 q.a3 q.c3) (withK h k):=by
 simp [lz,aA,kA,pK,withK]
theorem F9 (p:PtrM) (k:KM):(kA p k).all (·.oneCell')=true:=by
 simp [kA,Value.oneCell']
theorem kI:(Tryz.prog.info? 42).map (·.size)=some 9:=by kernel_rfl
theorem GJ (p:PtrM) (h:HartM) (w:World) (hi:HartIn w p h) (hm0:0<h.mem.length) (hm1:h.mem.length<=1048576) (hr1:h.regs.length<=1048576):
 Calls Tryz.prog 30 #[.agg (aA p h)] w fun e w'=>(∃p',e=.returned (.agg (aA p' h))∧HartIn w' p' h∧∀q,some q∈dW p'->w.heap.size<=q.block)∧Bw w w':=by
 have HI:=hid hi;have HB:=hid hi.mem.rowC;have HBa:Hid ((p.am=none->h.mem.length=0∧p.cm=0)∧∀q,p.am=some q->q.spot=none):=⟨fun hh=>absurd ((hi.mem.addr hm0).1 hh) (by omega),(hi.mem.addr hm0).2⟩;have HR:=hid hi.regs;have HRa:=hid hi.rega;have HK:=hid hi.ks;have HZ:=hid hi.mem.2.1;have HP:Hid (∀gm cm gr cr,((aA p h).setIfInBounds 0 (SL gm h.mem.length cm)).setIfInBounds 1 (SL gr h.regs.length cr)=aA (Fs p gm cm gr cr) h):=fun gm cm gr cr=>rfl;have hsz:=gI p h;have g0:(aA p h)[0]?=some (.slice p.am h.mem.length p.cm):=rfl;have g1:(aA p h)[1]?=some (.slice p.ar h.regs.length p.cr):=rfl;have HO:=hid (wW p h);have HKp:Hid (∀x y,((((aA p h).setIfInBounds 0 x).setIfInBounds 1 y).toList.drop 12).take 9=(kA p h.k).toList):=fun x y=>by simp [aA,kA]
 generalize aA p h=C at *;obtain ⟨M,hM⟩:∃M,h.mem.length=M:=⟨_,rfl⟩;obtain ⟨N,hN⟩:∃N,h.regs.length=N:=⟨_,rfl⟩;rw [hM] at HB HBa g0 hm0 hm1 HP;rw [hN] at HR HRa g1 hr1 HP;have HM:=hid hM;have HN:=hid hN;clear hi hM hN;go_enter Tryz.func30,Tryz.ntmps30;go_upto_region 1 with fail;obtain ⟨v1,Ev1,F⟩:=ax2 w C mB 44 44;rw [Ev1.out];clear Ev1;obtain ⟨h3,h6,l1,n1⟩:=F;have H3:Hid _:=h3;have H6:Hid _:=h6;have b1:w.heap.size<v1.heap.size:=by omega
 have b2:w.heap.size+1<v1.heap.size:=by omega
 have c0:=ce h3 0 g0;have OE:=OwnC.new 5 1 v1 [] 0 rfl (by decide);have nE:=(Below.refl v1.heap.size v1).alloc nle (Obj.cells #[] 5);clear h3 h6 l1;go_upto_region 2 with (at_builtin;refine BP _ rfl (.tmp 3) (.tmp 5) 22 rfl 5 Tryz.underlying22 (.int .u8 0) 1 1 Tryz.infoB rfl (by decide) v1.heap.size v1.heap.size 0 0 [] rfl OE p.am M p.cm (eR h.mem) rfl HBa.out.1 HBa.out.2 (RowC.keep (RowC.keep HB.out n1) nE) (F8 _) (by omega) (by omega) v1.heap.size v1 nE nle ?_;intro g2 cap2 v2 o2 n2;have c0:=ce (ag H3.out n2 b1) 0 g0;have f0:=ay (ag H3.out n2 b1) 0;have b3:=ltl b1 n2.size;clear OE nE);simp only [Nat.zero_add,List.nil_append] at o2 |-;have f2:=o2.facts;have hg1:=f2.2.1;have hg2:=f2.2.2.1;have HC2:Hid (M<=cap2∧cap2<=9223372036854775807):=⟨f2.2.2.2.1,by have:=f2.2.2.2.2;unfold maxLen at this;exact this⟩;have ng':g2≠w.heap.size:=by omega
 have n12:=eO (bst n1 n2) nle 0 (SL g2 M cap2);have K3:Hid _:=cV (ag H3.out n2 b1) 0 (SL g2 M cap2);have K6:Hid _:=qV (ag H6.out n2 b2) 0 (SL g2 M cap2) (show w.heap.size+1≠w.heap.size by omega);have O2:Hid _:=OwnC.gb o2 (aj (cC v2 (some w.heap.size)) 0 (SL g2 M cap2)) ng';have z2:v1.heap.size<=(v2.setCell (AD w.heap.size 0) (SL g2 M cap2)).heap.size:=by simp;exact n2.size
 have hg2':g2<(v2.setCell (AD w.heap.size 0) (SL g2 M cap2)).heap.size:=by simp;exact hg2
 generalize v2.setCell (AD w.heap.size 0) (SL g2 M cap2)=v3 at n12 K3 K6 O2 z2 hg2' |-;clear o2 f2 n2 H3 H6 c0 n1 hg2 HB HBa;have g1':(C.setIfInBounds 0 (SL g2 M cap2))[1]?=some (.slice p.ar N p.cr):=by
  rw [Array.getElem?_setIfInBounds_ne (by omega)];exact g1
 have c1:=ce K3.out 1 g1';have b4:w.heap.size<v3.heap.size:=by omega
 have b5:w.heap.size+1<v3.heap.size:=by omega
 have OE:=OwnC.new 33 1 v3 [] 0 rfl (by decide);have nE:=(Below.refl v3.heap.size v3).alloc nle (Obj.cells #[] 33);go_upto_region 3 with (at_builtin;refine BP _ rfl (.tmp 8) (.tmp 10) 32 rfl 33 Tryz.underlying32 (VU 0) 1 8 Tryz.infoU rfl (by decide) v3.heap.size v3.heap.size 0 0 [] rfl OE p.ar N p.cr (cF h.regs) rfl HRa.out.1 HRa.out.2 (RowC.keep (RowC.keep HR.out n12) nE) (DX _) (by omega) (by omega) v3.heap.size v3 nE nle ?_;intro g4 cap4 v4 o4 n4;have c1:=ce (ag K3.out n4 b4) 1 g1';have f1:=ay (ag K3.out n4 b4) 1;have b6:=ltl b4 n4.size;clear OE nE);simp only [Nat.zero_add,List.nil_append] at o4 |-;have f4:=o4.facts;have hh1:=f4.2.1;have hh2:=f4.2.2.1;have HC4:Hid (N<=cap4∧cap4<=9223372036854775807):=⟨f4.2.2.2.1,by have:=f4.2.2.2.2;unfold maxLen at this;exact this⟩;have nh':g4≠w.heap.size:=by omega
 have n14:=eO (bst n12 n4) nle 1 (SL g4 N cap4);have J3:Hid _:=cV (ag K3.out n4 b4) 1 (SL g4 N cap4);have J6:Hid _:=qV (ag K6.out n4 b5) 1 (SL g4 N cap4) (show w.heap.size+1≠w.heap.size by omega);have O4:Hid _:=OwnC.gb o4 (aj (cC v4 (some w.heap.size)) 1 (SL g4 N cap4)) nh';have O5:Hid _:=OwnC.gb (OwnC.keep O2.out n4 hg2') (aj (cC v4 (some w.heap.size)) 1 (SL g4 N cap4)) ng';have z4:v3.heap.size<=(v4.setCell (AD w.heap.size 1) (SL g4 N cap4)).heap.size:=by simp;exact n4.size
 have hh2':g4<(v4.setCell (AD w.heap.size 1) (SL g4 N cap4)).heap.size:=by simp;exact hh2
 generalize v4.setCell (AD w.heap.size 1) (SL g4 N cap4)=v5 at n14 J3 J6 O4 O5 z4 hh2' |-;clear o4 f4 n4 K3 K6 c1 hh2 HR HRa O2 n12;have hsz2:((C.setIfInBounds 0 (SL g2 M cap2)).setIfInBounds 1 (SL g4 N cap4)).size=21:=by simp only [Array.size_setIfInBounds,hsz]
 have HE:Hid _:=HP.out g2 cap2 g4 cap4;have HLk:Hid _:=hU (P:=Tryz.prog) (T:=42) J3.out Tryz.underlying42 rfl (o:=12) (kA p h.k).toList kI (HKp.out _ _) rfl;have HKc:=hid fun u (hu:Bw w u)=>B0 _ _ u (HK.out.keep hu);rw [show (kA p h.k).toList.toArray=kA p h.k from rfl] at HLk;generalize ((C.setIfInBounds 0 (SL g2 M cap2)).setIfInBounds 1 (SL g4 N cap4))=D at J3 hsz2 HE HLk;have b7:w.heap.size<v5.heap.size:=by omega
 have b8:w.heap.size+1<v5.heap.size:=by omega
 have HKK:=hid HK.out.ok;generalize kA p h.k=E at *;go_wp2_with (first | ((with_reducible refine ja ?_ HLk.out ?_);(exact rfl)));refine (HKc.out v5 n14).mono ?_;rintro e v6 ⟨⟨x,rfl,hx⟩,n6⟩;obtain ⟨a1,c1,a2,c2,a3,c3,hxe⟩:=hx.rows;have hx0:=(hxe p).1;subst hx0;have HX:=hid ((hxe p).2);clear hxe hx;have I3:Hid _:=ag J3.out n6 b7;have I6:Hid _:=ag J6.out n6 b8;have n16:=bst n14 n6;have O6:Hid _:=OwnC.keep O4.out n6 hh2';have O7:Hid _:=OwnC.keep O5.out n6 (by omega);have hEs:(kA (pK p a1 c1 a2 c2 a3 c3) h.k).size=9:=rfl;have HSk:Hid _:=hZ (P:=Tryz.prog) (T:=42) I3.out (o:=12) (V:=kA (pK p a1 c1 a2 c2 a3 c3) h.k) (by rw [hEs];exact kI) (by rw [hEs,hsz2];omega) (F9 _ _);have e1:=dD w.heap.size (kA (pK p a1 c1 a2 c2 a3 c3) h.k).toList 12 v6 D _ _ I3.out (by rw [hsz2];show 12+9<=21;omega);rw [HE.out,FG] at e1;have L3:Hid _:=e1;have L6:Hid _:=Cd I6.out 12 (kA (pK p a1 c1 a2 c2 a3 c3) h.k).toList (show w.heap.size+1≠w.heap.size by omega);have n17:=dn (Nat.le_refl w.heap.size) (kA (pK p a1 c1 a2 c2 a3 c3) h.k).toList 12 v6 n16;have gG:=bK w.heap.size (kA (pK p a1 c1 a2 c2 a3 c3) h.k).toList 12 v6 v6 (cC v6 _);have O8:Hid _:=OwnC.gb O6.out gG nh';have O9:Hid _:=OwnC.gb O7.out gG ng';have HX2:=hid (KRows.gb HX.out gG b7);have hDD:(aA (pK (Fs p g2 cap2 g4 cap4) (pK p a1 c1 a2 c2 a3 c3).a1 (pK p a1 c1 a2 c2 a3 c3).c1 (pK p a1 c1 a2 c2 a3 c3).a2 (pK p a1 c1 a2 c2 a3 c3).c2 (pK p a1 c1 a2 c2 a3 c3).a3 (pK p a1 c1 a2 c2 a3 c3).c3) (withK h h.k)).size=21:=rfl;have hone:=wW (pK (Fs p g2 cap2 g4 cap4) (pK p a1 c1 a2 c2 a3 c3).a1 (pK p a1 c1 a2 c2 a3 c3).c1 (pK p a1 c1 a2 c2 a3 c3).a2 (pK p a1 c1 a2 c2 a3 c3).c2 (pK p a1 c1 a2 c2 a3 c3).a3 (pK p a1 c1 a2 c2 a3 c3).c3) (withK h h.k);have HFin:Hid (aA (pK (Fs p g2 cap2 g4 cap4) (pK p a1 c1 a2 c2 a3 c3).a1 (pK p a1 c1 a2 c2 a3 c3).c1 (pK p a1 c1 a2 c2 a3 c3).a2 (pK p a1 c1 a2 c2 a3 c3).c2 (pK p a1 c1 a2 c2 a3 c3).a3 (pK p a1 c1 a2 c2 a3 c3).c3) (withK h h.k)=aA (pK (Fs p g2 cap2 g4 cap4) a1 c1 a2 c2 a3 c3) h):=rfl;generalize aA (pK (Fs p g2 cap2 g4 cap4) (pK p a1 c1 a2 c2 a3 c3).a1 (pK p a1 c1 a2 c2 a3 c3).c1 (pK p a1 c1 a2 c2 a3 c3).a2 (pK p a1 c1 a2 c2 a3 c3).c2 (pK p a1 c1 a2 c2 a3 c3).a3 (pK p a1 c1 a2 c2 a3 c3).c3) (withK h h.k)=G at L3 hDD hone HFin;generalize kA (pK p a1 c1 a2 c2 a3 c3) h.k=E2 at *;go_upto_region 4 with (first | ((with_reducible refine bI ?_ ?_ HSk.out ?_);(exact rfl);(exact rfl)));generalize v6.setCells w.heap.size 12 E2.toList=v7 at L3 L6 n17 O8 O9 HX2 |-;have HLr:Hid _:=ey (P:=Tryz.prog) (T:=44) L3.out Tryz.underlying44 rfl (by rw [hDD];exact ph);have HSr:Hid _:=dh (P:=Tryz.prog) (T:=44) (V:=G) L6.out (by rw [hDD];exact ph) (by rw [hDD,mC]) hone;have e1:=cD (V:=G) L6.out (by rw [hDD,mC]);have e2:=dn (show w.heap.size<=w.heap.size+1 by omega) (G).toList 0 _ n17;have eG:=bK (w.heap.size+1) (G).toList 0 v7 v7 (cC v7 _);go_wp2_with (first
  | ((with_reducible refine ja ?_ HLr.out ?_);(exact rfl))
  | ((with_reducible refine bI ?_ ?_ HSr.out ?_);(exact rfl);(exact rfl)))
 refine tp (b:=w.heap.size+1) Tryz.results30 rfl (dR (P:=Tryz.prog) e1 Tryz.underlying44 rfl (by rw [hDD];exact ph)) rfl ?_;have OA:=OwnC.gb O8.out eG (show g4≠w.heap.size+1 by omega);have OB:=OwnC.gb O9.out eG (show g2≠w.heap.size+1 by omega);have hX3:=KRows.gb HX2.out eG b8;have hks:=KRows.ptrs hX3;simp only [pK] at hks;refine ⟨⟨pK (Fs p g2 cap2 g4 cap4) a1 c1 a2 c2 a3 c3,by rw [HFin.out],?_,?_⟩,e2⟩
 rotate_left 1
 ·intro q hq;simp only [dW,pK,Fs,List.mem_cons,List.not_mem_nil,or_false] at hq;rcases hq with hq | hq | hq | hq | hq
  ·cases hq;show w.heap.size<=g2;omega
  ·cases hq;show w.heap.size<=g4;omega
  ·have:=(hks q (.inl hq.symm)).1;omega
  ·have:=(hks q (.inr (.inl hq.symm))).1;omega
  ·have:=(hks q (.inr (.inr hq.symm))).1;omega
 refine ⟨?_,?_,?_,?_,⟨fun hh=>(by cases hh),fun q hq=>by cases hq;rfl⟩,?_,?_⟩
 ·have:=OwnB.byt (e:=5) (zs:=h.mem) OB HZ.out;rw [HM.out];exact this
 ·rw [HM.out];exact HC2.out
 ·rw [HN.out];exact OA.row
 ·rw [HN.out];exact HC4.out
 ·exact KRows.at (q:=pK (Fs p g2 cap2 g4 cap4) a1 c1 a2 c2 a3 c3) hX3 HKK.out
 ·intro q hq;simp only [dW,pK,Fs,List.mem_cons,List.not_mem_nil,or_false] at hq;rcases hq with hq | hq | hq | hq | hq
  ·cases hq;exact (OwnC.facts OB).2.2.1
  ·cases hq;exact (OwnC.facts OA).2.2.1
  ·exact (hks q (.inl hq.symm)).2
  ·exact (hks q (.inr (.inl hq.symm))).2
  ·exact (hks q (.inr (.inr hq.symm))).2
section
attribute [local go_sem ↓] Go.wp_at_zero Go.wp_at_succ
def TransOwn (base:Nat) (w:World) (v:Value) (r:(Int × Int) × KM):Prop:=
 ∃s1 s2 s3,v=.agg #[VI r.1.1,VU r.1.2,VI r.2.i.sets,VI r.2.i.ways,s1,VI r.2.d.sets,VI r.2.d.ways,s2,VI r.2.p.sets,VI r.2.p.ways,s3]∧
  w.ownsRow base 154 6 s1 r.2.i.es.length (bE r.2.i.es)∧w.ownsRow base 154 6 s2 r.2.d.es.length (bE r.2.d.es)∧w.ownsRow base 154 6 s3 r.2.p.es.length (bE r.2.p.es)
theorem oB {v:World} {p:Nat} {T:TypeId} {a b c d e f g h i j k:Value} (hh:v.heap[p]?=some (.cells #[a,b,c,d,e,f,g,h,i,j,k] T (0,0))):
 v.cell? (AD p 0)=some a∧v.cell? (AD p 1)=some b∧v.cell? (AD p 2)=some c∧v.cell? (AD p 3)=some d∧v.cell? (AD p 4)=some e∧v.cell? (AD p 5)=some f∧v.cell? (AD p 6)=some g∧v.cell? (AD p 7)=some h∧v.cell? (AD p 8)=some i∧v.cell? (AD p 9)=some j∧v.cell? (AD p 10)=some k:=by
 simp [World.cell?,hh]
theorem vm {v:World} {p:Nat} {T:TypeId} {xs:Array Value} (hh:v.heap[p]?=some (.cells xs T (0,0))) (i:Nat):v.frozen? (AD p i)=false:=by
 simp [World.frozen?,hh]
theorem ED {B:Nat} {a w:World} {g:Nat} (h:Below B a w) (hg:B<=g) (x0 x1 x2 x3 x4 x5 x6 x7 x8 x9 x10:Value):Below B a (((((((((((w.setCell (AD g 0) x0).setCell (AD g 1) x1).setCell (AD g 2) x2).setCell (AD g 3) x3).setCell (AD g 4) x4).setCell (AD g 5) x5).setCell (AD g 6) x6).setCell (AD g 7) x7).setCell (AD g 8) x8).setCell (AD g 9) x9).setCell (AD g 10) x10):=
 (((((((((((h.setCell (p:=(AD g 0)) hg x0).setCell (p:=(AD g 1)) hg x1).setCell (p:=(AD g 2)) hg x2).setCell (p:=(AD g 3)) hg x3).setCell (p:=(AD g 4)) hg x4).setCell (p:=(AD g 5)) hg x5).setCell (p:=(AD g 6)) hg x6).setCell (p:=(AD g 7)) hg x7).setCell (p:=(AD g 8)) hg x8).setCell (p:=(AD g 9)) hg x9).setCell (p:=(AD g 10)) hg x10)
theorem EE (w:World) (g:Nat) (x0 x1 x2 x3 x4 x5 x6 x7 x8 x9 x10:Value):w.grownBy (((((((((((w.setCell (AD g 0) x0).setCell (AD g 1) x1).setCell (AD g 2) x2).setCell (AD g 3) x3).setCell (AD g 4) x4).setCell (AD g 5) x5).setCell (AD g 6) x6).setCell (AD g 7) x7).setCell (AD g 8) x8).setCell (AD g 9) x9).setCell (AD g 10) x10) (some g):=
 (aj (aj (aj (aj (aj (aj (aj (aj (aj (aj (aj (cC w (some g)) 0 x0) 1 x1) 2 x2) 3 x3) 4 x4) 5 x5) 6 x6) 7 x7) 8 x8) 9 x9) 10 x10)
theorem EF (base:Nat) (w:World):w.ownsRow base 154 6 (SN) 0 []:=⟨rfl,.inl ⟨rfl,rfl⟩⟩
theorem Fq (a:Option Addr) (len cap:Nat) (mode:Int) (sum mxr:Bool) (satp:Int) (v:Value) (k:KM) (kind va pick:Int) (w:World) (h:KAt w v k)
 (hbad:bj k=false∨kind<0∨2<kind∨mode<0∨2<mode∨pick<0∨255<pick):
 Calls Tryz.prog 92 #[.slice a len cap,Bz mode sum mxr satp,v,VI kind,VU va,VI pick] w fun e w'=>(∃x,e=.returned x∧TransOwn w.heap.size w' x ((63,0),k0M))∧Bw w w':=by
 have HK:=hid fun u (hu:Bw w u)=>BC v k u (h.keep hu);obtain ⟨a1,c1,a2,c2,a3,c3,rfl,_⟩:=h;obtain ⟨q,hq⟩:∃q,bj k=q:=⟨_,rfl⟩;rw [hq] at hbad HK;clear hq;have n1:Bw w (((w.alloc (Obj.cells #[VI mode,.bool sum,.bool mxr,VU satp] 110)).alloc (Obj.cells #[VI k.i.sets,VI k.i.ways,.slice a1 k.i.es.length c1,VI k.d.sets,VI k.d.ways,.slice a2 k.d.es.length c2,VI k.p.sets,VI k.p.ways,.slice a3 k.p.es.length c3] 42)).alloc (Obj.cells #[VI 0,VU 0,VI 0,VI 0,SN,VI 0,VI 0,SN,VI 0,VI 0,SN] 202)):=(((Below.refl w.heap.size w).alloc nle _).alloc (by simp) _).alloc (by simp;omega) _;have H1:Hid ((((w.alloc (Obj.cells #[VI mode,.bool sum,.bool mxr,VU satp] 110)).alloc (Obj.cells #[VI k.i.sets,VI k.i.ways,.slice a1 k.i.es.length c1,VI k.d.sets,VI k.d.ways,.slice a2 k.d.es.length c2,VI k.p.sets,VI k.p.ways,.slice a3 k.p.es.length c3] 42)).alloc (Obj.cells #[VI 0,VU 0,VI 0,VI 0,SN,VI 0,VI 0,SN,VI 0,VI 0,SN] 202)).heap[w.heap.size]?=some (.cells #[VI mode,.bool sum,.bool mxr,VU satp] 110 (0,0))):=by
  show _=_;rw [Eu _ _ (by simp;omega),Eu _ _ (by simp)];exact dN w _
 have H2:Hid ((((w.alloc (Obj.cells #[VI mode,.bool sum,.bool mxr,VU satp] 110)).alloc (Obj.cells #[VI k.i.sets,VI k.i.ways,.slice a1 k.i.es.length c1,VI k.d.sets,VI k.d.ways,.slice a2 k.d.es.length c2,VI k.p.sets,VI k.p.ways,.slice a3 k.p.es.length c3] 42)).alloc (Obj.cells #[VI 0,VU 0,VI 0,VI 0,SN,VI 0,VI 0,SN,VI 0,VI 0,SN] 202)).heap[w.heap.size+1]?=some (.cells #[VI k.i.sets,VI k.i.ways,.slice a1 k.i.es.length c1,VI k.d.sets,VI k.d.ways,.slice a2 k.d.es.length c2,VI k.p.sets,VI k.p.ways,.slice a3 k.p.es.length c3] 42 (0,0))):=by
  show _=_;rw [Eu _ _ (by simp)];have:=dN (w.alloc (Obj.cells #[VI mode,.bool sum,.bool mxr,VU satp] 110)) (Obj.cells #[VI k.i.sets,VI k.i.ways,.slice a1 k.i.es.length c1,VI k.d.sets,VI k.d.ways,.slice a2 k.d.es.length c2,VI k.p.sets,VI k.p.ways,.slice a3 k.p.es.length c3] 42);simp only [World.size_alloc] at this;exact this
 have H3:Hid ((((w.alloc (Obj.cells #[VI mode,.bool sum,.bool mxr,VU satp] 110)).alloc (Obj.cells #[VI k.i.sets,VI k.i.ways,.slice a1 k.i.es.length c1,VI k.d.sets,VI k.d.ways,.slice a2 k.d.es.length c2,VI k.p.sets,VI k.p.ways,.slice a3 k.p.es.length c3] 42)).alloc (Obj.cells #[VI 0,VU 0,VI 0,VI 0,SN,VI 0,VI 0,SN,VI 0,VI 0,SN] 202)).heap[w.heap.size+1+1]?=some (.cells #[VI 0,VU 0,VI 0,VI 0,SN,VI 0,VI 0,SN,VI 0,VI 0,SN] 202 (0,0))):=by
  have:=dN ((w.alloc (Obj.cells #[VI mode,.bool sum,.bool mxr,VU satp] 110)).alloc (Obj.cells #[VI k.i.sets,VI k.i.ways,.slice a1 k.i.es.length c1,VI k.d.sets,VI k.d.ways,.slice a2 k.d.es.length c2,VI k.p.sets,VI k.p.ways,.slice a3 k.p.es.length c3] 42)) (Obj.cells #[VI 0,VU 0,VI 0,VI 0,SN,VI 0,VI 0,SN,VI 0,VI 0,SN] 202);simp only [World.size_alloc] at this;exact this
 have l1:w.heap.size+1+1<(((w.alloc (Obj.cells #[VI mode,.bool sum,.bool mxr,VU satp] 110)).alloc (Obj.cells #[VI k.i.sets,VI k.i.ways,.slice a1 k.i.es.length c1,VI k.d.sets,VI k.d.ways,.slice a2 k.d.es.length c2,VI k.p.sets,VI k.p.ways,.slice a3 k.p.es.length c3] 42)).alloc (Obj.cells #[VI 0,VU 0,VI 0,VI 0,SN,VI 0,VI 0,SN,VI 0,VI 0,SN] 202)).heap.size:=by simp
 unfold Bz;rcases (show q=false∨(q=true∧kind<0)∨(q=true∧0<=kind∧2<kind)∨(q=true∧0<=kind∧kind<=2∧mode<0)∨(q=true∧0<=kind∧kind<=2∧0<=mode∧2<mode)∨(q=true∧0<=kind∧kind<=2∧0<=mode∧mode<=2∧pick<0)∨(q=true∧0<=kind∧kind<=2∧0<=mode∧mode<=2∧0<=pick∧255<pick) by cases q <;> simp at hbad |- <;> omega) with rfl | ⟨rfl,h0⟩ | ⟨rfl,h0,h1⟩ | ⟨rfl,h0,h1,h2⟩ | ⟨rfl,h0,h1,h2,h3⟩ | ⟨rfl,h0,h1,h2,h3,h4⟩ | ⟨rfl,h0,h1,h2,h3,h4,h5⟩;all_goals
  clear hbad;go_enter Tryz.func92,Tryz.ntmps92;go_wp2_with fail;generalize (((w.alloc (Obj.cells #[VI mode,.bool sum,.bool mxr,VU satp] 110)).alloc (Obj.cells #[VI k.i.sets,VI k.i.ways,.slice a1 k.i.es.length c1,VI k.d.sets,VI k.d.ways,.slice a2 k.d.es.length c2,VI k.p.sets,VI k.p.ways,.slice a3 k.p.es.length c3] 42)).alloc (Obj.cells #[VI 0,VU 0,VI 0,VI 0,SN,VI 0,VI 0,SN,VI 0,VI 0,SN] 202))=v1 at n1 H1 H2 H3 l1 |-;refine (HK.out v1 n1).mono ?_;rintro e v2 ⟨rfl,n2⟩;have G3:Hid _:=ag H3.out n2 l1;have l2:=n2.size;obtain ⟨d0,d1,d2,d3⟩:=aO (ag H1.out n2 (by omega));obtain ⟨j0,j1,j2,j3,j4,j5,j6,j7,j8,j9,j10⟩:=oB G3.out;have ff:=vm G3.out;have f0:=ff 0;have f1:=ff 1;have f2:=ff 2;have f3:=ff 3;have f4:=ff 4;have f5:=ff 5;have f6:=ff 6;have f7:=ff 7;have f8:=ff 8;have f9:=ff 9;have f10:=ff 10;clear ff;go_wp2_with fail;refine bodyPost_ret (v:=.agg #[VI 63,VU 0,VI 0,VI 0,SN,VI 0,VI 0,SN,VI 0,VI 0,SN]) (by simp [results,Tryz.results92,go_sem,j0,j1,j2,j3,j4,j5,j6,j7,j8,j9,j10]) rfl
   ⟨⟨_,rfl,SN,SN,SN,rfl,EF _ _,EF _ _,EF _ _⟩,ED (bst n1 n2) (by omega) _ _ _ _ _ _ _ _ _ _ _⟩
end
section
attribute [local go_sem ↓] Go.wp_at_zero Go.wp_at_succ
theorem gt {e:TypeId} {size:Nat} {w w':World} {base n g cap r:Nat} {cs:List Value} (h:w.ownsRow base e size (SL g n cap) n cs) (hg:w.grownBy w' (some r)) (hr:g≠r):w'.ownsRow base e size (SL g n cap) n cs:=by
 refine h.kept hg (.inr ?_);simp [Value.ownBlock];omega
theorem Fu (a:Option Addr) (len cap:Nat) (mode:Int) (sum mxr:Bool) (satp:Int) (v:Value) (k:KM) (kind va pick:Int) (w:World) (h:KAt w v k)
 (hgood:bj k=true) (h0:0<=kind) (h1:kind<=2) (h2:0<=mode) (h3:mode<=2) (h4:0<=pick) (h5:pick<=255) (hs0:0<=satp) (hs1:satp<=18446744073709551615) (hon:onM mode satp=false):
 Calls Tryz.prog 92 #[.slice a len cap,Bz mode sum mxr satp,v,VI kind,VU va,VI pick] w fun e w'=>(∃x,e=.returned x∧TransOwn w.heap.size w' x ((0,va),k))∧Bw w w':=by
 have HK:=hid fun u (hu:Bw w u)=>BC v k u (h.keep hu);have HL:=hid fun u (hu:Bw w u)=>B0 v k u (h.keep hu);have HO:Hid (∀u,Calls Tryz.prog 33 #[Bz mode sum mxr satp] u fun e w'=>e=.returned (.bool false)∧Bw u w'):=fun u=>by have:=CO mode sum mxr satp u hs0 hs1;rw [hon] at this;exact this
 obtain ⟨a1,c1,a2,c2,a3,c3,rfl,_⟩:=h;rw [hgood] at HK;clear hgood hon;obtain ⟨v1,Ev1,n1,H1,H2,H3,l1⟩:=al3 w #[VI mode,.bool sum,.bool mxr,VU satp] #[VI k.i.sets,VI k.i.ways,.slice a1 k.i.es.length c1,VI k.d.sets,VI k.d.ways,.slice a2 k.d.es.length c2,VI k.p.sets,VI k.p.ways,.slice a3 k.p.es.length c3] #[VI 0,VU 0,VI 0,VI 0,SN,VI 0,VI 0,SN,VI 0,VI 0,SN] 110 42 202;unfold Bz at HO |-;go_enter Tryz.func92,Tryz.ntmps92;go_upto_region 1 with fail;rw [Ev1.out];clear Ev1;obtain ⟨⟨d0,d1,d2,d3⟩,_⟩:=aO H1.out;obtain ⟨b0,b1,b2,b3,b4,b5,b6,b7,b8⟩:=jP H2.out;go_cut [49] (fun s49 wx=>s49=.bool false∧Bw v1 wx)
 case first=>
  go_wp2_with fail;refine (HK.out v1 n1).mono ?_;rintro e v2 ⟨rfl,n2⟩;obtain ⟨⟨d0,d1,d2,d3⟩,_⟩:=aO (ae H1 n2).out;go_wp2;go_meet;refine ⟨?_,n2⟩;simp;omega
 obtain ⟨rfl,n2⟩:=hcut;generalize wc=v2 at n2 |-;have l2:=n2.size;have n12:=bst n1 n2;have K1:=ae H1 n2;have K2:=ae H2 n2;have K3:=ae H3 n2;clear d0 d1 d2 d3 b0 b1 b2 b3 b4 b5 b6 b7 b8;obtain ⟨⟨d0,d1,d2,d3⟩,_⟩:=aO K1.out;obtain ⟨b0,b1,b2,b3,b4,b5,b6,b7,b8⟩:=jP K2.out;have s0:w.heap.size+1+1<v2.heap.size:=by omega
 clear n1 n2 H1 H2 H3;go_wp2_with fail;refine (HL.out v2 n12).mono ?_;rintro e v3 ⟨⟨x,rfl,g1,e1,g2,e2,g3,e3,rfl,o1,o2,o3⟩,n3⟩;have l3:=n3.size;have n13:=bst n12 n3;have P1:=ae K1 n3;have P2:=ae K2 n3;have P3:=ae K3 n3;have O1:Hid _:=o1;have O2:Hid _:=o2;have O3:Hid _:=o3;clear o1 o2 o3 n12 n3 K1 K2 K3 d0 d1 d2 d3 b0 b1 b2 b3 b4 b5 b6 b7 b8;obtain ⟨⟨d0,d1,d2,d3⟩,_⟩:=aO P1.out;have t0:w.heap.size<v3.heap.size:=by omega
 have t1:w.heap.size+1<v3.heap.size:=by omega
 have t2:w.heap.size+1+1<v3.heap.size:=by omega
 go_wp2_with fail;obtain ⟨v4,Ev4,n4,H4,l4⟩:=al1 v3 #[VI 0,VU 0,VI k.i.sets,VI k.i.ways,SL g1 k.i.es.length e1,VI k.d.sets,VI k.d.ways,SL g2 k.d.es.length e2,VI k.p.sets,VI k.p.ways,SL g3 k.p.es.length e3] 202;rw [Ev4.out];clear Ev4;refine (HO.out v4).mono ?_;rintro e v5 ⟨rfl,n5⟩;have l5:=n5.size;have n45:=bst n4 n5;have n15:=bst n13 n45;have Q3:=ae P3 n45;have Q4:=ae H4 n5;have U1:=cB O1.out n45;have U2:=cB O2.out n45;have U3:=cB O3.out n45;have a1':=bx O1.out;have a2':=bx O2.out;have a3':=bx O3.out;have V1:Hid _:=U1;have V2:Hid _:=U2;have V3:Hid _:=U3;have A1:Hid _:=a1';have A2:Hid _:=a2';have A3:Hid _:=a3';clear U1 U2 U3 a1' a2' a3' O1 O2 O3 n4 n5 P1 P2 P3 H4;obtain ⟨j0,j1,j2,j3,j4,j5,j6,j7,j8,j9,j10⟩:=oB Q3.out;obtain ⟨m0,m1,m2,m3,m4,m5,m6,m7,m8,m9,m10⟩:=oB Q4.out;have ff:=vm Q3.out;have f0:=ff 0;have f1:=ff 1;have f2:=ff 2;have f3:=ff 3;have f4:=ff 4;have f5:=ff 5;have f6:=ff 6;have f7:=ff 7;have f8:=ff 8;have f9:=ff 9;have f10:=ff 10;have gg:=vm Q4.out;have g0':=gg 0;have g1':=gg 1;clear ff gg;have ne1:v3.heap.size≠w.heap.size+1+1:=by omega
 have ne2:w.heap.size+1+1≠v3.heap.size:=by omega
 go_wp2_with fail;obtain ⟨_,z1,z1'⟩:=A1.out;obtain ⟨_,z2,z2'⟩:=A2.out;obtain ⟨_,z3,z3'⟩:=A3.out;have gO:=aj (cC v5 (some v3.heap.size)) 1 (VU va);refine bodyPost_ret (v:=.agg #[VI 0,VU va,VI k.i.sets,VI k.i.ways,SL g1 k.i.es.length e1,VI k.d.sets,VI k.d.ways,SL g2 k.d.es.length e2,VI k.p.sets,VI k.p.ways,SL g3 k.p.es.length e3]) (by simp [results,Tryz.results92,go_sem,j0,j1,j2,j3,j4,j5,j6,j7,j8,j9,j10]) rfl
  ⟨⟨_,rfl,_,_,_,rfl,bD (gt (gt V1.out gO (by omega)) (EE _ (w.heap.size+1+1) _ _ _ _ _ _ _ _ _ _ _) (by omega)) (by omega),bD (gt (gt V2.out gO (by omega)) (EE _ (w.heap.size+1+1) _ _ _ _ _ _ _ _ _ _ _) (by omega)) (by omega),bD (gt (gt V3.out gO (by omega)) (EE _ (w.heap.size+1+1) _ _ _ _ _ _ _ _ _ _ _) (by omega)) (by omega)⟩,ED (n15.setCell (p:=(AD v3.heap.size 1)) (by simp only;omega) _) (by omega) _ _ _ _ _ _ _ _ _ _ _⟩
end
theorem eE (sv:Value) (zs:List Int) (va root:Int) (w:World) (hB:SrcAt w sv zs) (hv0:0<=va) (hv1:va<=18446744073709551615) (hr0:0<=root) (hr1:root<=18446744073709551615):
 Calls Tryz.prog 164 #[sv,VU root,VU va] w fun e w'=>ua w.heap.size w' e (aU zs root va)∧Bw w w':=by
 have b0:=(Below.refl w.heap.size w).alloc nle (Obj.cells #[VI 0,VU 0,SN] 284);have r0:Hid ((w.alloc (Obj.cells #[VI 0,VU 0,SN] 284)).heap[w.heap.size]?=some (.cells #[VI 0,VU 0,SN] 284 (0,0))):=dN w _;have HB:=hid hB;clear hB;have hb0:0<=root%17592186044416∧root%17592186044416<17592186044416:=⟨Int.emod_nonneg _ (by omega),Int.emod_lt_of_pos _ (by omega)⟩;have HM:=hid (db 44 root 17592186044415 rfl (by omega) hr0 hr1);unfold aU;cases hcn:bY va
 ·rw [if_pos rfl];have HC:=hid hcn;clear hcn;go_enter Tryz.func164,Tryz.ntmps164;go_wp2_with fail;generalize w.alloc (Obj.cells #[VI 0,VU 0,SN] 284)=v1 at b0 r0 |-;refine (BZ va v1 hv0 hv1).mono ?_;rintro e v2 ⟨rfl,rfl⟩;rw [HC.out];obtain ⟨⟨d0,d1,d2⟩,f0,f1,f2⟩:=au r0.out;go_wp2_with fail;refine bodyPost_ret (v:=.tuple #[.agg #[VI 2,VU 0,SN],.iface 260 (.agg #[])]) (by simp [results,Tryz.results164,go_sem,d0,d1,d2]) rfl ?_;exact ⟨⟨none,0,rfl,World.ownsRow_nil _ _ _ _⟩,iG b0 nle _ _ _⟩
 ·rw [if_neg (by simp)];have HC:=hid hcn;clear hcn;obtain ⟨X,hX⟩:∃X,aN zs va 2 (root%17592186044416)=X:=⟨_,rfl⟩;have HX:=hid hX;rw [hX];clear hX;go_enter Tryz.func164,Tryz.ntmps164;go_wp2_with fail;have l1:w.heap.size<(w.alloc (Obj.cells #[VI 0,VU 0,SN] 284)).heap.size:=by simp
  generalize w.alloc (Obj.cells #[VI 0,VU 0,SN] 284)=v1 at b0 r0 l1 |-;refine (BZ va v1 hv0 hv1).mono ?_;rintro e v2 ⟨rfl,rfl⟩;rw [HC.out];go_wp2_with fail;refine (bQ 44 17592186044415 _ (by omega)).mono ?_;rintro e v3 ⟨rfl,rfl⟩;go_wp2_with fail;rw [HM.out];refine (kx sv zs va (root%17592186044416) 2 v3 (HB.out.keep b0) (by omega) hv0 hv1 hb0.1 hb0.2).mono ?_;rintro e v4 ⟨hw,n4⟩;rw [HX.out] at hw;obtain ⟨ra,rc,rfl,o4⟩:=hw;obtain ⟨x1,x2,x3,rs⟩:=X;simp only at o4 |-;have HO:=hid o4;clear o4;have r4:=hid (ag r0.out n4 l1);have b4:=bst b0 n4;obtain ⟨⟨d0,d1,d2⟩,f0,f1,f2⟩:=au r4.out;obtain ⟨fv,hfv⟩:∃fv,kM x1=fv:=⟨_,rfl⟩;have HF:=hid hfv;rw [hfv];clear hfv;go_wp2_with fail;refine bodyPost_ret (v:=.tuple #[.agg #[VI x2,VU x3,.slice ra rs.length rc],fv]) (by simp [results,Tryz.results164,go_sem,d0,d1,d2]) rfl ?_;exact ⟨⟨ra,rc,by rw [HF.out],bD (ao HO.out (gb3 _ w.heap.size _ _ _) l1) (by omega)⟩,iG b4 nle _ _ _⟩
section
attribute [local go_sem ↓] Go.wp_at_zero Go.wp_at_succ
theorem Gu:∀(rs:List aD) (i j:Nat) (hi:i<rs.length),j<3->(bu rs)[i*3+j]?=(tR rs[i])[j]?
 | r::rs,0,j,hi,hj=>by
  simp only [bu,List.getElem_cons_zero,Nat.zero_mul,Nat.zero_add];rw [List.getElem?_append_left (by simpa [tR] using hj)]
 | r::rs,i+1,j,hi,hj=>by
  simp only [bu,List.getElem_cons_succ];rw [List.getElem?_append_right (by simp [tR];omega)];have:(i+1)*3+j-(tR r).length=i*3+j:=by simp [tR];omega
  rw [this];exact Gu rs i j (by simpa using hi) hj
theorem Gv {w:World} {b off n:Nat} {rs:List aD} (h:RowC w (some (AD b off)) n 3 (bu rs)) (hn:rs.length=n) (k:Nat) (x:aD) (hx:rs[k]?=some x) (j:Nat) (v:Value) (hj:j<3) (hv:(tR x)[j]?=some v):
 w.cell? ⟨b,off+k*3+j,none⟩=some v:=by
 obtain ⟨h1,h2⟩:=h;obtain ⟨hk,rfl⟩:=List.getElem?_eq_some_iff.1 hx;rcases h2 with h2 | ⟨b',off',e,_,hc⟩
 ·omega
 ·simp at e;obtain ⟨rfl,rfl⟩:=e;have:=hc (k*3+j) v (by rw [Gu rs k j hk hj];exact hv);rw [<-Nat.add_assoc] at this;exact this
end
end Go.Proofs.YthdgiakgepmabaaGreat
