import Derived.Test.YthekickjjaleaaaGreatPack11
import Derived.Test.YthekickjjaleaaaGreatPack03
import Derived.Deep.CutRange
namespace Go.Proofs.YthekickjjaleaaaGreat
open Go.RowKit
set_option linter.unusedVariables false
def fz (zs:List Int):List Value:=zs.map (Value.int .u8)
theorem rr (zs:List Int):∀u∈fz zs,u.oneCell'=true:=tj zs
theorem Byt.rowC {w:World} {a:Option Addr} {len:Nat} {zs:List Int} (h:Byt w a len zs):RowC w a len 1 (fz zs):=by
 obtain ⟨h1,h2,h3⟩:=h;refine ⟨by simp [fz,h1],?_⟩;rcases h3 with h3 | ⟨b,off,rfl,hb,hc⟩
 ·exact .inl h3
 ·refine .inr ⟨b,off,rfl,hb,fun i v hv=>?_⟩;have hi:i<len:=by
   have:=(List.getElem?_eq_some_iff.1 hv).1;simpa [fz,h1] using this
  rw [hc i hi];simp only [fz,List.getElem?_map] at hv;cases hz:zs[i]? with
  | none=>simp [hz] at hv
  | some z=>simpa [hz] using hv
theorem Byt.addr {w:World} {a:Option Addr} {len:Nat} {zs:List Int} (h:Byt w a len zs) (hl:0<len):(a=none→len=0)∧∀q,a=some q→q.spot=none:=by
 rcases h.2.2 with h3 | ⟨b,off,rfl,hb,hc⟩
 ·omega
 ·exact ⟨fun h=>(by cases h),fun q hq=>by cases hq;rfl⟩
def pL (p:PtrM) (gm cm gr cr:Nat):PtrM:=⟨some ⟨gm,0,none⟩,cm,some ⟨gr,0,none⟩,cr,p.a1,p.c1,p.a2,p.c2,p.a3,p.c3⟩
def pK (p:PtrM) (a1:Option Addr) (c1:Nat) (a2:Option Addr) (c2:Nat) (a3:Option Addr) (c3:Nat):PtrM:=⟨p.am,p.cm,p.ar,p.cr,a1,c1,a2,c2,a3,c3⟩
theorem KOwn.gb {base r:Nat} {w w':World} {v:Value} {k:KM} (h:KOwn base w v k) (hg:w.grownBy w' (some r)) (hr:r<base):KOwn base w' v k:=by
 obtain ⟨g1,c1,g2,c2,g3,c3,rfl,o1,o2,o3⟩:=h;exact ⟨g1,c1,g2,c2,g3,c3,rfl,cK o1 hg hr,cK o2 hg hr,cK o3 hg hr⟩
theorem KOwn.open {base:Nat} {w:World} {v:Value} {k:KM} (h:KOwn base w v k):∃a1 c1 a2 c2 a3 c3,∀p,v=.agg (kA (pK p a1 c1 a2 c2 a3 c3) k):=by
 obtain ⟨g1,c1,g2,c2,g3,c3,rfl,o1,o2,o3⟩:=h;exact ⟨some ⟨g1,0,none⟩,c1,some ⟨g2,0,none⟩,c2,some ⟨g3,0,none⟩,c3,fun p=>rfl⟩
def KRows (base:Nat) (w:World) (q:PtrM) (k:KM):Prop:=
 w.ownsRow base 83 6 (.slice q.a1 k.i.es.length q.c1) k.i.es.length (aG k.i.es)∧w.ownsRow base 83 6 (.slice q.a2 k.d.es.length q.c2) k.d.es.length (aG k.d.es)∧w.ownsRow base 83 6 (.slice q.a3 k.p.es.length q.c3) k.p.es.length (aG k.p.es)
theorem KRows.gb {base r:Nat} {w w':World} {q:PtrM} {k:KM} (h:KRows base w q k) (hg:w.grownBy w' (some r)) (hr:r<base):KRows base w' q k:=
 ⟨cK h.1 hg hr,cK h.2.1 hg hr,cK h.2.2 hg hr⟩
theorem KRows.set {base pb:Nat} {w w':World} {q:PtrM} {k:KM} {cur:Array Value} {T:TypeId} {f:Nat × Nat} (h:KRows base w q k) (hp:w.heap[pb]?=some (.cells cur T f)) (hT:T≠83) (hg:w.grownBy w' (some pb)):KRows base w' q k:=
 ⟨dn h.1 hp hT hg,dn h.2.1 hp hT hg,dn h.2.2 hp hT hg⟩
theorem KRows.keep {base:Nat} {w w':World} {q:PtrM} {k:KM} (h:KRows base w q k) (hb:Below w.heap.size w w'):KRows base w' q k:=
 ⟨ak h.1 hb,ak h.2.1 hb,ak h.2.2 hb⟩
theorem ec {base:Nat} {w:World} {t:TlbM} {a:Option Addr} {c:Nat} (ho:w.ownsRow base 83 6 (.slice a t.es.length c) t.es.length (aG t.es)) (hk:dA t):TlbAt w (.agg #[.int .i64 t.sets,.int .i64 t.ways,.slice a t.es.length c]) t:=by
 have hr:=fH ho;rcases ho.2 with ⟨h2,h3⟩ | ⟨g',cap',cur,h2,hb,hg,hc1,hc2,_⟩
 ·simp only [Value.slice.injEq] at h2;obtain ⟨rfl,h4,rfl⟩:=h2;exact ⟨none,0,rfl,hr,hk.1,hk.2.1,hk.2.2.1,hk.2.2.2,by omega,by omega,fun _=>⟨h4,rfl⟩,fun q hq=>(by cases hq)⟩
 ·simp only [Value.slice.injEq] at h2;obtain ⟨rfl,_,rfl⟩:=h2;exact ⟨some ⟨g',0,none⟩,_,rfl,hr,hk.1,hk.2.1,hk.2.2.1,hk.2.2.2,hc1,by unfold maxLen at hc2;omega,(by intro h;cases h),(by intro q hq;cases hq;rfl)⟩
theorem KRows.at {base:Nat} {w:World} {q:PtrM} {k:KM} (h:KRows base w q k) (hk:kOk k):KAt w (.agg (kA q k)) k:=
 ⟨_,_,_,_,_,_,rfl,ec h.1 hk.1,ec h.2.1 hk.2.1,ec h.2.2 hk.2.2⟩
theorem eZ {base size n c:Nat} {e:TypeId} {w:World} {a:Option Addr} {cs:List Value} (h:w.ownsRow base e size (.slice a n c) n cs) (q:Addr) (hq:a=some q):base≤q.block∧q.block<w.heap.size:=by
 subst hq;exact (bV h).2
theorem KRows.ptrs {base:Nat} {w:World} {p:PtrM} {k:KM} (h:KRows base w p k) (q:Addr) (hq:p.a1=some q∨p.a2=some q∨p.a3=some q):base≤q.block∧q.block<w.heap.size:=by
 rcases hq with hq | hq | hq
 ·exact eZ h.1 q hq
 ·exact eZ h.2.1 q hq
 ·exact eZ h.2.2 q hq
theorem tC {B:Nat} {p:PtrM} {a1 a2 a3:Option Addr} {c1 c2 c3:Nat} (h:∀q,(a1=some q∨a2=some q∨a3=some q)→B≤q.block):From B p (pK p a1 c1 a2 c2 a3 c3):=fun q hq=>by
 simp only [aN,pK,List.mem_cons,List.not_mem_nil,or_false] at hq;rcases hq with hq | hq | hq | hq | hq
 ·exact .inl (by simp [aN,hq])
 ·exact .inl (by simp [aN,hq])
 ·exact .inr (h q (.inl hq.symm))
 ·exact .inr (h q (.inr (.inl hq.symm)))
 ·exact .inr (h q (.inr (.inr hq.symm)))
theorem wQ {B:Nat} {p:PtrM} {a1 a2 a3:Option Addr} {c1 c2 c3:Nat} (hp:∀q,some q∈aN p→q.block<B) (h:∀q,(a1=some q∨a2=some q∨a3=some q)→q.block<B):∀q,some q∈aN (pK p a1 c1 a2 c2 a3 c3)→q.block<B:=fun q hq=>by
 simp only [aN,pK,List.mem_cons,List.not_mem_nil,or_false] at hq;rcases hq with hq | hq | hq | hq | hq
 ·exact hp q (by simp [aN,hq])
 ·exact hp q (by simp [aN,hq])
 ·exact h q (.inl hq.symm)
 ·exact h q (.inr (.inl hq.symm))
 ·exact h q (.inr (.inr hq.symm))
theorem KOwn.rows {base:Nat} {w:World} {v:Value} {k:KM} (h:KOwn base w v k):∃a1 c1 a2 c2 a3 c3,∀p,v=.agg (kA (pK p a1 c1 a2 c2 a3 c3) k)∧KRows base w (pK p a1 c1 a2 c2 a3 c3) k:=by
 obtain ⟨g1,c1,g2,c2,g3,c3,rfl,o1,o2,o3⟩:=h;exact ⟨some ⟨g1,0,none⟩,c1,some ⟨g2,0,none⟩,c2,some ⟨g3,0,none⟩,c3,fun p=>⟨rfl,o1,o2,o3⟩⟩
theorem KAt.ok {w:World} {v:Value} {k:KM} (h:KAt w v k):kOk k:=by
 obtain ⟨a1,c1,a2,c2,a3,c3,rfl,h1,h2,h3⟩:=h;exact ⟨h1.ok,h2.ok,h3.ok⟩
theorem pZ (p q:PtrM) (h:HartM) (k:KM):ig (aA p h) 12 (kA q k).toList=aA (pK p q.a1 q.c1 q.a2 q.c2 q.a3 q.c3) (dP h k):=by
 simp [ig,aA,kA,pK,dP]
theorem rt (p:PtrM) (k:KM):(kA p k).all (·.oneCell')=true:=by
 simp [kA,Value.oneCell']
theorem kI:(Tryz.prog.info? 43).map (·.size)=some 9:=by kernel_rfl
set_option maxRecDepth 20000 in
set_option maxHeartbeats 1600000 in
theorem sM (p:PtrM) (h:HartM) (w:World) (hi:HartIn w p h) (hm0:0<h.mem.length) (hm1:h.mem.length≤1048576) (hr1:h.regs.length≤1048576):
 Calls Tryz.prog 129 #[.agg (aA p h)] w fun e w'=>(∃p',e=.returned (.agg (aA p' h))∧HartIn w' p' h∧∀q,some q∈aN p'→w.heap.size≤q.block)∧Below w.heap.size w w':=by
 have HI:Hid (HartIn w p h):=hi;have HB:Hid (RowC w p.am h.mem.length 1 (fz h.mem)):=hi.mem.rowC;have HBa:Hid ((p.am=none→h.mem.length=0∧p.cm=0)∧∀q,p.am=some q→q.spot=none):=⟨fun hh=>absurd ((hi.mem.addr hm0).1 hh) (by omega),(hi.mem.addr hm0).2⟩;have HR:Hid (RowC w p.ar h.regs.length 1 (ex h.regs)):=hi.regs;have HRa:Hid ((p.ar=none→h.regs.length=0∧p.cr=0)∧∀q,p.ar=some q→q.spot=none):=hi.rega;have HK:Hid (KAt w (.agg (kA p h.k)) h.k):=hi.ks;have HZ:Hid (e8 h.mem):=hi.mem.2.1;have HP:Hid (∀gm cm gr cr,((aA p h).setIfInBounds 0 (.slice (some ⟨gm,0,none⟩) h.mem.length cm)).setIfInBounds 1 (.slice (some ⟨gr,0,none⟩) h.regs.length cr)=aA (pL p gm cm gr cr) h):=fun gm cm gr cr=>rfl;have hsz:=dX p h;have g0:(aA p h)[0]?=some (.slice p.am h.mem.length p.cm):=rfl;have g1:(aA p h)[1]?=some (.slice p.ar h.regs.length p.cr):=rfl;have HO:Hid ((aA p h).all (·.oneCell')=true):=eU p h;have HKp:Hid (∀x y,((((aA p h).setIfInBounds 0 x).setIfInBounds 1 y).toList.drop 12).take 9=(kA p h.k).toList):=fun x y=>by simp [aA,kA]
 generalize aA p h=C at *;obtain ⟨M,hM⟩:∃M,h.mem.length=M:=⟨_,rfl⟩;obtain ⟨N,hN⟩:∃N,h.regs.length=N:=⟨_,rfl⟩;rw [hM] at HB HBa g0 hm0 hm1 HP;rw [hN] at HR HRa g1 hr1 HP;have HM:Hid (h.mem.length=M):=hM;have HN:Hid (h.regs.length=N):=hN;clear hi hM hN;go_enter Tryz.func129,Tryz.ntmps129;go_upto_region 1 with fail;have F:=eJ w C eu 59 59;generalize (w.alloc (Obj.cells C 59)).alloc (Obj.cells eu 59)=v1 at F ⊢;obtain ⟨h3,h6,l1,n1⟩:=F;have H3:Hid _:=h3;have H6:Hid _:=h6;have b1:w.heap.size<v1.heap.size:=by omega
 have b2:w.heap.size+1<v1.heap.size:=by omega
 have c0:=ag h3 0 g0;have OE:=OwnC.new 5 1 v1 [] 0 rfl (by decide);have nE:=(Below.refl v1.heap.size v1).alloc (Nat.le_refl _) (Obj.cells #[] 5);clear h3 h6 l1;go_upto_region 2 with (at_builtin;refine gj _ rfl (.tmp 3) (.tmp 5) 22 rfl 5 Tryz.underlying22 (.int .u8 0) 1 1 Tryz.infoB rfl (by decide) v1.heap.size v1.heap.size 0 0 [] rfl OE p.am M p.cm (fz h.mem) rfl HBa.out.1 HBa.out.2 (RowC.keep (RowC.keep HB.out n1) nE) (rr _) (by omega) (by omega) v1.heap.size v1 nE (Nat.le_refl _) ?_;intro g2 cap2 v2 o2 n2;have c0:=ag (ab H3.out n2 b1) 0 g0;have f0:=au (ab H3.out n2 b1) 0;have b3:=Nat.lt_of_lt_of_le b1 n2.size;clear OE nE);simp only [Nat.zero_add,List.nil_append] at o2 ⊢;have f2:=o2.facts;have hg1:v1.heap.size≤g2:=f2.2.1;have hg2:g2<v2.heap.size:=f2.2.2.1;have HC2:Hid (M≤cap2∧cap2≤9223372036854775807):=⟨f2.2.2.2.1,by have:=f2.2.2.2.2;unfold maxLen at this;exact this⟩;have ng':g2≠w.heap.size:=by omega
 have n12:=cI (Below.step n1 n2 (Nat.le_refl _)) (Nat.le_refl _) 0 (.slice (some ⟨g2,0,none⟩) M cap2);have K3:Hid _:=cd (ab H3.out n2 b1) 0 (.slice (some ⟨g2,0,none⟩) M cap2);have K6:Hid _:=cQ (ab H6.out n2 b2) 0 (.slice (some ⟨g2,0,none⟩) M cap2) (show w.heap.size+1≠w.heap.size by omega);have O2:Hid _:=OwnC.gb o2 (aq (az v2 (some w.heap.size)) 0 (.slice (some ⟨g2,0,none⟩) M cap2)) ng';have z2:v1.heap.size≤(v2.setCell ⟨w.heap.size,0,none⟩ (.slice (some ⟨g2,0,none⟩) M cap2)).heap.size:=by simp;exact n2.size
 have hg2':g2<(v2.setCell ⟨w.heap.size,0,none⟩ (.slice (some ⟨g2,0,none⟩) M cap2)).heap.size:=by simp;exact hg2
 generalize v2.setCell ⟨w.heap.size,0,none⟩ (.slice (some ⟨g2,0,none⟩) M cap2)=v3 at n12 K3 K6 O2 z2 hg2' ⊢;clear o2 f2 n2 H3 H6 c0 n1 hg2 HB HBa;have g1':(C.setIfInBounds 0 (.slice (some ⟨g2,0,none⟩) M cap2))[1]?=some (.slice p.ar N p.cr):=by
  rw [Array.getElem?_setIfInBounds_ne (by omega)];exact g1
 have c1:=ag K3.out 1 g1';have b4:w.heap.size<v3.heap.size:=by omega
 have b5:w.heap.size+1<v3.heap.size:=by omega
 have OE:=OwnC.new 29 1 v3 [] 0 rfl (by decide);have nE:=(Below.refl v3.heap.size v3).alloc (Nat.le_refl _) (Obj.cells #[] 29);go_upto_region 3 with (at_builtin;refine gj _ rfl (.tmp 8) (.tmp 10) 28 rfl 29 Tryz.underlying28 (.int .u64 0) 1 8 Tryz.infoU rfl (by decide) v3.heap.size v3.heap.size 0 0 [] rfl OE p.ar N p.cr (ex h.regs) rfl HRa.out.1 HRa.out.2 (RowC.keep (RowC.keep HR.out n12) nE) (lV _) (by omega) (by omega) v3.heap.size v3 nE (Nat.le_refl _) ?_;intro g4 cap4 v4 o4 n4;have c1:=ag (ab K3.out n4 b4) 1 g1';have f1:=au (ab K3.out n4 b4) 1;have b6:=Nat.lt_of_lt_of_le b4 n4.size;clear OE nE);simp only [Nat.zero_add,List.nil_append] at o4 ⊢;have f4:=o4.facts;have hh1:v3.heap.size≤g4:=f4.2.1;have hh2:g4<v4.heap.size:=f4.2.2.1;have HC4:Hid (N≤cap4∧cap4≤9223372036854775807):=⟨f4.2.2.2.1,by have:=f4.2.2.2.2;unfold maxLen at this;exact this⟩;have nh':g4≠w.heap.size:=by omega
 have n14:=cI (Below.step n12 n4 (Nat.le_refl _)) (Nat.le_refl _) 1 (.slice (some ⟨g4,0,none⟩) N cap4);have J3:Hid _:=cd (ab K3.out n4 b4) 1 (.slice (some ⟨g4,0,none⟩) N cap4);have J6:Hid _:=cQ (ab K6.out n4 b5) 1 (.slice (some ⟨g4,0,none⟩) N cap4) (show w.heap.size+1≠w.heap.size by omega);have O4:Hid _:=OwnC.gb o4 (aq (az v4 (some w.heap.size)) 1 (.slice (some ⟨g4,0,none⟩) N cap4)) nh';have O5:Hid _:=OwnC.gb (OwnC.keep O2.out n4 hg2') (aq (az v4 (some w.heap.size)) 1 (.slice (some ⟨g4,0,none⟩) N cap4)) ng';have z4:v3.heap.size≤(v4.setCell ⟨w.heap.size,1,none⟩ (.slice (some ⟨g4,0,none⟩) N cap4)).heap.size:=by simp;exact n4.size
 have hh2':g4<(v4.setCell ⟨w.heap.size,1,none⟩ (.slice (some ⟨g4,0,none⟩) N cap4)).heap.size:=by simp;exact hh2
 generalize v4.setCell ⟨w.heap.size,1,none⟩ (.slice (some ⟨g4,0,none⟩) N cap4)=v5 at n14 J3 J6 O4 O5 z4 hh2' ⊢;clear o4 f4 n4 K3 K6 c1 hh2 HR HRa O2 n12;have hsz2:((C.setIfInBounds 0 (.slice (some ⟨g2,0,none⟩) M cap2)).setIfInBounds 1 (.slice (some ⟨g4,0,none⟩) N cap4)).size=21:=by simp only [Array.size_setIfInBounds,hsz]
 have HE:Hid _:=HP.out g2 cap2 g4 cap4;have HLk:Hid _:=cw (P:=Tryz.prog) (T:=43) J3.out Tryz.underlying43 rfl (o:=12) (kA p h.k).toList kI (HKp.out _ _) rfl;have HKc:Hid (∀u,Below w.heap.size w u→Calls Tryz.prog 73 #[.agg (kA p h.k)] u fun e w'=>(∃x,e=.returned x∧KOwn u.heap.size w' x h.k)∧Below u.heap.size u w'):=fun u hu=>fs _ _ u (HK.out.keep hu);rw [show (kA p h.k).toList.toArray=kA p h.k from rfl] at HLk;generalize ((C.setIfInBounds 0 (.slice (some ⟨g2,0,none⟩) M cap2)).setIfInBounds 1 (.slice (some ⟨g4,0,none⟩) N cap4))=D at J3 hsz2 HE HLk;have b7:w.heap.size<v5.heap.size:=by omega
 have b8:w.heap.size+1<v5.heap.size:=by omega
 have HKK:Hid (kOk h.k):=HK.out.ok;generalize kA p h.k=E at *;go_wp2_with (first | ((with_reducible refine aK ?_ HLk.out ?_);(exact rfl)));refine (HKc.out v5 n14).mono ?_;rintro e v6 ⟨⟨x,rfl,hx⟩,n6⟩;obtain ⟨a1,c1,a2,c2,a3,c3,hxe⟩:=hx.rows;have hx0:=(hxe p).1;subst hx0;have HX:Hid (KRows v5.heap.size v6 (pK p a1 c1 a2 c2 a3 c3) h.k):=(hxe p).2;clear hxe hx;have I3:Hid _:=ab J3.out n6 b7;have I6:Hid _:=ab J6.out n6 b8;have n16:=Below.step n14 n6 (Nat.le_refl _);have O6:Hid _:=OwnC.keep O4.out n6 hh2';have O7:Hid _:=OwnC.keep O5.out n6 (by omega);have hEs:(kA (pK p a1 c1 a2 c2 a3 c3) h.k).size=9:=rfl;have HSk:Hid _:=et (P:=Tryz.prog) (T:=43) I3.out (o:=12) (V:=kA (pK p a1 c1 a2 c2 a3 c3) h.k) (by rw [hEs];exact kI) (by rw [hEs,hsz2];omega) (rt _ _);have e1:=cM w.heap.size (kA (pK p a1 c1 a2 c2 a3 c3) h.k).toList 12 v6 D _ _ I3.out (by rw [hsz2];show 12+9≤21;omega);rw [HE.out,pZ] at e1;have L3:Hid _:=e1;have L6:Hid _:=fx I6.out 12 (kA (pK p a1 c1 a2 c2 a3 c3) h.k).toList (show w.heap.size+1≠w.heap.size by omega);have n17:=aZ (Nat.le_refl w.heap.size) (kA (pK p a1 c1 a2 c2 a3 c3) h.k).toList 12 v6 n16;have gG:=aM w.heap.size (kA (pK p a1 c1 a2 c2 a3 c3) h.k).toList 12 v6 v6 (az v6 _);have O8:Hid _:=OwnC.gb O6.out gG nh';have O9:Hid _:=OwnC.gb O7.out gG ng';have HX2:Hid (KRows v5.heap.size (v6.setCells w.heap.size 12 (kA (pK p a1 c1 a2 c2 a3 c3) h.k).toList) (pK p a1 c1 a2 c2 a3 c3) h.k):=KRows.gb HX.out gG b7;have hDD:(aA (pK (pL p g2 cap2 g4 cap4) (pK p a1 c1 a2 c2 a3 c3).a1 (pK p a1 c1 a2 c2 a3 c3).c1 (pK p a1 c1 a2 c2 a3 c3).a2 (pK p a1 c1 a2 c2 a3 c3).c2 (pK p a1 c1 a2 c2 a3 c3).a3 (pK p a1 c1 a2 c2 a3 c3).c3) (dP h h.k)).size=21:=rfl;have hone:=eU (pK (pL p g2 cap2 g4 cap4) (pK p a1 c1 a2 c2 a3 c3).a1 (pK p a1 c1 a2 c2 a3 c3).c1 (pK p a1 c1 a2 c2 a3 c3).a2 (pK p a1 c1 a2 c2 a3 c3).c2 (pK p a1 c1 a2 c2 a3 c3).a3 (pK p a1 c1 a2 c2 a3 c3).c3) (dP h h.k);have HFin:Hid (aA (pK (pL p g2 cap2 g4 cap4) (pK p a1 c1 a2 c2 a3 c3).a1 (pK p a1 c1 a2 c2 a3 c3).c1 (pK p a1 c1 a2 c2 a3 c3).a2 (pK p a1 c1 a2 c2 a3 c3).c2 (pK p a1 c1 a2 c2 a3 c3).a3 (pK p a1 c1 a2 c2 a3 c3).c3) (dP h h.k)=aA (pK (pL p g2 cap2 g4 cap4) a1 c1 a2 c2 a3 c3) h):=rfl;generalize aA (pK (pL p g2 cap2 g4 cap4) (pK p a1 c1 a2 c2 a3 c3).a1 (pK p a1 c1 a2 c2 a3 c3).c1 (pK p a1 c1 a2 c2 a3 c3).a2 (pK p a1 c1 a2 c2 a3 c3).c2 (pK p a1 c1 a2 c2 a3 c3).a3 (pK p a1 c1 a2 c2 a3 c3).c3) (dP h h.k)=G at L3 hDD hone HFin;generalize kA (pK p a1 c1 a2 c2 a3 c3) h.k=E2 at *;go_upto_region 4 with (first | ((with_reducible refine av ?_ ?_ HSk.out ?_);(exact rfl);(exact rfl)));generalize v6.setCells w.heap.size 12 E2.toList=v7 at L3 L6 n17 O8 O9 HX2 ⊢;have HLr:Hid _:=aH (P:=Tryz.prog) (T:=59) L3.out Tryz.underlying59 rfl (by rw [hDD];exact eV);have HSr:Hid _:=bu (P:=Tryz.prog) (T:=59) (V:=G) L6.out (by rw [hDD];exact eV) (by rw [hDD,eA]) hone;have e1:=a6 (V:=G) L6.out (by rw [hDD,eA]);have e2:=aZ (show w.heap.size≤w.heap.size+1 by omega) (G).toList 0 _ n17;have eG:=aM (w.heap.size+1) (G).toList 0 v7 v7 (az v7 _);go_wp2_with (first
  | ((with_reducible refine aK ?_ HLr.out ?_);(exact rfl))
  | ((with_reducible refine av ?_ ?_ HSr.out ?_);(exact rfl);(exact rfl)))
 refine dc (b:=w.heap.size+1) Tryz.results129 rfl (ba (P:=Tryz.prog) e1 Tryz.underlying59 rfl (by rw [hDD];exact eV)) rfl ?_;have OA:=OwnC.gb O8.out eG (show g4≠w.heap.size+1 by omega);have OB:=OwnC.gb O9.out eG (show g2≠w.heap.size+1 by omega);have hX3:=KRows.gb HX2.out eG b8;have hks:=KRows.ptrs hX3;simp only [pK] at hks;refine ⟨⟨pK (pL p g2 cap2 g4 cap4) a1 c1 a2 c2 a3 c3,by rw [HFin.out],?_,?_⟩,e2⟩
 rotate_left 1
 ·intro q hq;simp only [aN,pK,pL,List.mem_cons,List.not_mem_nil,or_false] at hq;rcases hq with hq | hq | hq | hq | hq
  ·cases hq;show w.heap.size≤g2;omega
  ·cases hq;show w.heap.size≤g4;omega
  ·have:=(hks q (.inl hq.symm)).1;omega
  ·have:=(hks q (.inr (.inl hq.symm))).1;omega
  ·have:=(hks q (.inr (.inr hq.symm))).1;omega
 refine ⟨?_,?_,?_,?_,⟨fun hh=>(by cases hh),fun q hq=>by cases hq;rfl⟩,?_,?_⟩
 ·have:=OwnB.byt (e:=5) (zs:=h.mem) OB HZ.out;rw [HM.out];exact this
 ·rw [HM.out];exact HC2.out
 ·rw [HN.out];exact OA.row
 ·rw [HN.out];exact HC4.out
 ·exact KRows.at (q:=pK (pL p g2 cap2 g4 cap4) a1 c1 a2 c2 a3 c3) hX3 HKK.out
 ·intro q hq;simp only [aN,pK,pL,List.mem_cons,List.not_mem_nil,or_false] at hq;rcases hq with hq | hq | hq | hq | hq
  ·cases hq;exact (OwnC.facts OB).2.2.1
  ·cases hq;exact (OwnC.facts OA).2.2.1
  ·exact (hks q (.inl hq.symm)).2
  ·exact (hks q (.inr (.inl hq.symm))).2
  ·exact (hks q (.inr (.inr hq.symm))).2
end Go.Proofs.YthekickjjaleaaaGreat

namespace Go.Proofs.YthekickjjaleaaaGreat
open Go.RowKit
set_option linter.unusedVariables false
def Rw (w:World) (r:Nat) (a:Option Addr):Prop:=∀q,a=some q→q.block≠r∧q.block<w.heap.size
theorem Rw.mono {w w':World} {r:Nat} {a:Option Addr} (h:Rw w r a) (hs:w.heap.size≤w'.heap.size):Rw w' r a:=fun q hq=>⟨(h q hq).1,Nat.lt_of_lt_of_le (h q hq).2 hs⟩
theorem Rw.new {w:World} {r r':Nat} {a:Option Addr} (h:Rw w r a) (hr:w.heap.size≤r'):Rw w r' a:=fun q hq=>⟨by have:=(h q hq).2;omega,(h q hq).2⟩
theorem Rw.at {w:World} {r:Nat} {a:Option Addr} (h:Rw w r a):∀q,a=some q→q.block≠r:=fun q hq=>(h q hq).1
structure KN (w:World) (r:Nat) (q:PtrM) (k:KM):Prop where
 k:KAt w (.agg (kA q k)) k
 n1:Rw w r q.a1
 n2:Rw w r q.a2
 n3:Rw w r q.a3
theorem KN.keep {w w':World} {r:Nat} {q:PtrM} {k:KM} (h:KN w r q k) (hb:Below w.heap.size w w'):KN w' r q k:=⟨h.k.keep hb,h.n1.mono hb.size,h.n2.mono hb.size,h.n3.mono hb.size⟩
theorem KN.new {w:World} {r r':Nat} {q:PtrM} {k:KM} (h:KN w r q k) (hr:w.heap.size≤r'):KN w r' q k:=⟨h.k,h.n1.new hr,h.n2.new hr,h.n3.new hr⟩
theorem KN.parts {w:World} {r:Nat} {q:PtrM} {k:KM} (h:KN w r q k):TlbAt w (.agg #[.int .i64 k.i.sets,.int .i64 k.i.ways,.slice q.a1 k.i.es.length q.c1]) k.i∧TlbAt w (.agg #[.int .i64 k.d.sets,.int .i64 k.d.ways,.slice q.a2 k.d.es.length q.c2]) k.d∧TlbAt w (.agg #[.int .i64 k.p.sets,.int .i64 k.p.ways,.slice q.a3 k.p.es.length q.c3]) k.p:=by
 obtain ⟨a1,c1,a2,c2,a3,c3,he,t1,t2,t3⟩:=h.k;simp only [kA,Value.agg.injEq,Array.mk.injEq,List.cons.injEq,Value.slice.injEq,true_and,and_true] at he;obtain ⟨⟨rfl,rfl⟩,⟨rfl,rfl⟩,rfl,rfl⟩:=he;exact ⟨t1,t2,t3⟩
theorem KN.of {w:World} {r:Nat} {q:PtrM} {k:KM} (t1:TlbAt w (.agg #[.int .i64 k.i.sets,.int .i64 k.i.ways,.slice q.a1 k.i.es.length q.c1]) k.i) (t2:TlbAt w (.agg #[.int .i64 k.d.sets,.int .i64 k.d.ways,.slice q.a2 k.d.es.length q.c2]) k.d) (t3:TlbAt w (.agg #[.int .i64 k.p.sets,.int .i64 k.p.ways,.slice q.a3 k.p.es.length q.c3]) k.p) (n1:Rw w r q.a1) (n2:Rw w r q.a2) (n3:Rw w r q.a3):KN w r q k:=
 ⟨⟨_,_,_,_,_,_,rfl,t1,t2,t3⟩,n1,n2,n3⟩
theorem KN.gb {w w':World} {r:Nat} {q:PtrM} {k:KM} (h:KN w r q k) (hg:w.grownBy w' (some r)):KN w' r q k:=
 have t:=h.parts
 KN.of (t.1.gb' hg h.n1.at) (t.2.1.gb' hg h.n2.at) (t.2.2.gb' hg h.n3.at) (h.n1.mono hg.size) (h.n2.mono hg.size) (h.n3.mono hg.size)
theorem KN.ok {w:World} {r:Nat} {q:PtrM} {k:KM} (h:KN w r q k):kOk k:=⟨h.parts.1.ok,h.parts.2.1.ok,h.parts.2.2.ok⟩
theorem qN {base size n c r:Nat} {e:TypeId} {w:World} {a:Option Addr} {cs:List Value} (h:w.ownsRow base e size (.slice a n c) n cs) (hr:r<base):Rw w r a:=by
 rcases h.2 with ⟨h2,_⟩ | ⟨g',cap',cur,h2,hb,hh,_⟩
 ·simp only [Value.slice.injEq] at h2;obtain ⟨rfl,_⟩:=h2;intro q hq;cases hq
 ·simp only [Value.slice.injEq] at h2;obtain ⟨rfl,_⟩:=h2;intro q hq;cases hq;exact ⟨by show g'≠r;omega,(Array.getElem?_eq_some_iff.1 hh).1⟩
theorem KRows.kn {base r:Nat} {w:World} {q:PtrM} {k:KM} (h:KRows base w q k) (hr:r<base) (hk:kOk k):KN w r q k:=
 KN.of (ec h.1 hk.1) (ec h.2.1 hk.2.1) (ec h.2.2 hk.2.2) (qN h.1 hr) (qN h.2.1 hr) (qN h.2.2 hr)
structure HartN (w:World) (r:Nat) (q:PtrM) (h:HartM):Prop where
 i:HartIn w q h
 n:∀x,some x∈aN q→x.block≠r
 o:HOk h
theorem HartN.keep {w w':World} {r:Nat} {q:PtrM} {h:HartM} (k:HartN w r q h) (hb:Below w.heap.size w w'):HartN w' r q h:=⟨k.i.keep hb,k.n,k.o⟩
theorem HartN.gb {w w':World} {r:Nat} {q:PtrM} {h:HartM} (k:HartN w r q h) (hg:w.grownBy w' (some r)):HartN w' r q h:=⟨k.i.gb hg k.n,k.n,k.o⟩
theorem HartN.rw {w:World} {r:Nat} {q:PtrM} {h:HartM} (k:HartN w r q h) {a:Option Addr} (ha:a∈aN q):Rw w r a:=fun x hx=>⟨k.n x (hx ▸ ha),k.i.low x (hx ▸ ha)⟩
theorem HartN.kn {w:World} {r:Nat} {q:PtrM} {h:HartM} (k:HartN w r q h):KN w r q h.k:=
 ⟨k.i.ks,k.rw (by simp [aN]),k.rw (by simp [aN]),k.rw (by simp [aN])⟩
structure TlbN (w:World) (r:Nat) (a:Option Addr) (c:Nat) (t:TlbM):Prop where
 t:TlbAt w (.agg #[.int .i64 t.sets,.int .i64 t.ways,.slice a t.es.length c]) t
 n:Rw w r a
theorem TlbN.keep {w w':World} {r:Nat} {a:Option Addr} {c:Nat} {t:TlbM} (k:TlbN w r a c t) (hb:Below w.heap.size w w'):TlbN w' r a c t:=⟨k.t.keep hb,k.n.mono hb.size⟩
theorem TlbN.gb {w w':World} {r:Nat} {a:Option Addr} {c:Nat} {t:TlbM} (k:TlbN w r a c t) (hg:w.grownBy w' (some r)):TlbN w' r a c t:=⟨k.t.gb' hg k.n.at,k.n.mono hg.size⟩
theorem TlbN.new {w:World} {r r':Nat} {a:Option Addr} {c:Nat} {t:TlbM} (k:TlbN w r a c t) (hr:w.heap.size≤r'):TlbN w r' a c t:=⟨k.t,k.n.new hr⟩
structure BytN (w:World) (r:Nat) (a:Option Addr) (len cap:Nat) (zs:List Int):Prop where
 b:Byt w a len zs
 n:Rw w r a
 l:len≤1048576
 c:len≤cap∧cap≤9223372036854775807
theorem BytN.keep {w w':World} {r:Nat} {a:Option Addr} {len cap:Nat} {zs:List Int} (k:BytN w r a len cap zs) (hb:Below w.heap.size w w'):BytN w' r a len cap zs:=⟨k.b.keep hb,k.n.mono hb.size,k.l,k.c⟩
theorem BytN.gb {w w':World} {r:Nat} {a:Option Addr} {len cap:Nat} {zs:List Int} (k:BytN w r a len cap zs) (hg:w.grownBy w' (some r)):BytN w' r a len cap zs:=⟨k.b.gb' hg k.n.at,k.n.mono hg.size,k.l,k.c⟩
theorem BytN.new {w:World} {r r':Nat} {a:Option Addr} {len cap:Nat} {zs:List Int} (k:BytN w r a len cap zs) (hr:w.heap.size≤r'):BytN w r' a len cap zs:=⟨k.b,k.n.new hr,k.l,k.c⟩
theorem HartN.bn {w:World} {r:Nat} {q:PtrM} {h:HartM} (k:HartN w r q h):BytN w r q.am h.mem.length q.cm h.mem:=
 ⟨k.i.mem,k.rw (by simp [aN]),by have:=fc k.o.v.size;omega,k.i.memc⟩
theorem oL {t:TlbM} {b:Bool} (h:aI t b=true):1≤t.es.length∧t.es.length≤32:=by
 simp only [aI,fF,Bool.and_eq_true,decide_eq_true_eq] at h;obtain ⟨⟨h1,h2,h3,h4⟩,_⟩:=h;rcases h1 with h1 | h1 | h1 | h1 <;> rw [h1] at h4 <;> omega
theorem um {k:KM} (h:bs k=true):(1≤k.i.es.length∧k.i.es.length≤32)∧(1≤k.d.es.length∧k.d.es.length≤32)∧(1≤k.p.es.length∧k.p.es.length≤32):=by
 simp only [bs,Bool.and_eq_true] at h;exact ⟨oL h.1.1,oL h.1.2,oL h.2⟩
end Go.Proofs.YthekickjjaleaaaGreat

namespace Go.Proofs.YthekickjjaleaaaGreat
open Go.RowKit
set_option linter.unusedVariables false
theorem fV (v:World) (Z V:Array Value) (T:TypeId) (hi:(Tryz.prog.info? T).map (·.size)=some V.size) (hz:V.size=Z.size) (h1:V.all (·.oneCell')=true):
 ∃v',(Instr.storeAt T (.pointer (some ⟨v.heap.size,0,none⟩)) (.agg V)).run Tryz.prog (v.alloc (Obj.cells Z T))=.ok () v'∧v'.heap[v.heap.size]?=some (.cells V T (0,0))∧v'.heap.size=v.heap.size+1∧Below v.heap.size v v':=by
 have a:=dr v Z T;refine ⟨_,bu (P:=Tryz.prog) (T:=T) a.1 hi hz h1,a6 a.1 hz,?_,?_⟩
 ·rw [cF,a.2.1]
 ·exact aZ (Nat.le_refl _) _ _ _ a.2.2
theorem dx {v:World} {g:Nat} {C:Array Value} {T:TypeId} (h:v.heap[g]?=some (.cells C T (0,0))) (V:Array Value) (hi:(Tryz.prog.info? T).map (·.size)=some V.size) (hz:V.size=C.size) (h1:V.all (·.oneCell')=true):
 ∃v',(Instr.storeAt T (.pointer (some ⟨g,0,none⟩)) (.agg V)).run Tryz.prog v=.ok () v'∧v'.heap[g]?=some (.cells V T (0,0))∧v.grownBy v' (some g)∧v'.heap.size=v.heap.size:=
 ⟨_,bu (P:=Tryz.prog) (T:=T) h hi hz h1,a6 h hz,aM _ _ _ _ _ (az _ _),cF _ _ _ _⟩
theorem qy (m:Int) (s x:Bool) (t:Int):(#[.int .i64 m,.bool s,.bool x,.int .u64 t]:Array Value).all (·.oneCell')=true:=by simp [Value.oneCell']
theorem eP (s w:Int) (a:Option Addr) (n c:Nat):(#[.int .i64 s,.int .i64 w,.slice a n c]:Array Value).all (·.oneCell')=true:=by simp [Value.oneCell']
theorem kH (v:Bool) (l t a:Int) (g:Bool) (x:Int):(#[.bool v,.int .i64 l,.int .u64 t,.int .u64 a,.bool g,.int .u64 x]:Array Value).all (·.oneCell')=true:=by simp [Value.oneCell']
theorem nQ:(Tryz.prog.info? 38).map (·.size)=some 4:=by kernel_rfl
theorem DrewN.own {w v u:World} {p g:Nat} {f:Nat→Int} {k:Nat} (h:DrewN w p f k v) (hg:v.grownBy u (some g)) (hl:w.heap.size≤g) (hp:p<w.heap.size):DrewN w p f k u:=
 h.below ⟨hg.os,hg.tape,hg.output,hg.size,fun i hi=>hg.block i (Nat.lt_of_lt_of_le hi h.2.size) (by simp;omega)⟩ hp
structure CtxS (w:World) (p:Nat) (f:Nat→Int) (k:Nat) (wr:World) (b4 b5:Nat) (mode:Int) (sum mxr:Bool) (satp:Int):Prop where
 d:DrewN w p f k wr
 h4:wr.heap[b4]?=some (.cells #[.int .i64 0,.bool false,.bool false,.int .u64 0] 38 (0,0))
 h5:wr.heap[b5]?=some (.cells #[.int .i64 mode,.bool sum,.bool mxr,.int .u64 satp] 38 (0,0))
 l4:w.heap.size≤b4
 l5:w.heap.size≤b5
 ne:b4≠b5
 bd:0≤satp∧satp≤18446744073709551615
theorem CtxS.draw {w wr v:World} {p:Nat} {f:Nat→Int} {k k' b4 b5:Nat} {mode:Int} {sum mxr:Bool} {satp:Int} (s:CtxS w p f k wr b4 b5 mode sum mxr satp) (hp:p<w.heap.size) (d:DrewN wr p f k' v):CtxS w p f k' v b4 b5 mode sum mxr satp:=
 ⟨s.d.trans d,aw s.h4 d.2 (by have:=s.l4;omega),aw s.h5 d.2 (by have:=s.l5;omega),s.l4,s.l5,s.ne,s.bd⟩
theorem CtxS.put {w wr:World} {p:Nat} {f:Nat→Int} {k b4 b5:Nat} {mode mode':Int} {sum mxr sum' mxr':Bool} {satp satp':Int} (s:CtxS w p f k wr b4 b5 mode sum mxr satp) (hp:p<w.heap.size) (i:Nat) (x:Value) (he:(#[.int .i64 mode,.bool sum,.bool mxr,.int .u64 satp]:Array Value).setIfInBounds i x=#[.int .i64 mode',.bool sum',.bool mxr',.int .u64 satp']) (hb:0≤satp'∧satp'≤18446744073709551615):CtxS w p f k (wr.setCell ⟨b5,i,none⟩ x) b4 b5 mode' sum' mxr' satp':=
 ⟨s.d.own (aq (az _ _) i x) s.l5 hp,cQ s.h4 i x s.ne,by rw [←he];exact cd s.h5 i x,s.l4,s.l5,s.ne,hb⟩
theorem CtxS.low {w wr:World} {p:Nat} {f:Nat→Int} {k b4 b5:Nat} {mode:Int} {sum mxr:Bool} {satp:Int} (s:CtxS w p f k wr b4 b5 mode sum mxr satp):b5<wr.heap.size∧wr.cell? ⟨b5,0,none⟩=some (.int .i64 mode)∧wr.cell? ⟨b5,1,none⟩=some (.bool sum)∧wr.cell? ⟨b5,2,none⟩=some (.bool mxr)∧wr.cell? ⟨b5,3,none⟩=some (.int .u64 satp)∧∀i,wr.frozen? ⟨b5,i,none⟩=false:=
 ⟨(Array.getElem?_eq_some_iff.1 s.h5).1,ag s.h5 0 rfl,ag s.h5 1 rfl,ag s.h5 2 rfl,ag s.h5 3 rfl,fun i=>au s.h5 i⟩
theorem CtxS.fin {w wr:World} {p:Nat} {f:Nat→Int} {k b4 b5:Nat} {mode:Int} {sum mxr:Bool} {satp:Int} (s:CtxS w p f k wr b4 b5 mode sum mxr satp) (hp:p<w.heap.size):
 (Instr.loadAt 38 (.pointer (some ⟨b5,0,none⟩))).run Tryz.prog wr=.ok (.agg #[.int .i64 mode,.bool sum,.bool mxr,.int .u64 satp]) wr∧
 ∃vE,(Instr.storeAt 38 (.pointer (some ⟨b4,0,none⟩)) (.agg #[.int .i64 mode,.bool sum,.bool mxr,.int .u64 satp])).run Tryz.prog wr=.ok () vE∧(loadVar 38 ⟨b4,0,none⟩).run Tryz.prog vE=.ok (.agg #[.int .i64 mode,.bool sum,.bool mxr,.int .u64 satp]) vE∧DrewN w p f k vE:=by
 refine ⟨aH (P:=Tryz.prog) (T:=38) s.h5 Tryz.underlying38 rfl nQ,?_⟩;obtain ⟨vE,hsE,hE,gE, -⟩:=dx s.h4 #[.int .i64 mode,.bool sum,.bool mxr,.int .u64 satp] nQ rfl (qy _ _ _ _);exact ⟨vE,hsE,ba (P:=Tryz.prog) hE Tryz.underlying38 rfl nQ,s.d.own gE s.l4 hp⟩
set_option maxRecDepth 20000 in
set_option maxHeartbeats 3200000 in
theorem rj (p:Nat) (f:Nat→Int) (k:Nat) (q:PtrM) (h:HartM) (w:World) (hc:CurN w p f k) (hs:0≤h.satp∧h.satp≤18446744073709551615):
 Calls Tryz.prog 62 #[.pointer (some ⟨p,0,none⟩),.agg (aA q h)] w fun e w'=>∃mode sum mxr satp k',e=.returned (dD mode sum mxr satp)∧(0≤satp∧satp≤18446744073709551615)∧DrewN w p f k' w':=by
 have hp:=hc.lt;have CC:Hid (∀u,Calls Tryz.prog 132 #[.agg (aA q h)] u fun e w'=>e=.returned (dD h.mode h.sum h.mxr h.satp)∧Below u.heap.size u w'):=fun u=>mt q h u;have hsz:=dX q h;unfold dD at CC ⊢;generalize aA q h=C at *;generalize h.mode=m0 at *;generalize h.sum=s0 at *;generalize h.mxr=x0 at *;generalize h.satp=t0 at *;go_enter Tryz.func62,Tryz.ntmps62;go_upto_region 1 with fail;have F:=eJ w C #[.int .i64 0,.bool false,.bool false,.int .u64 0] 59 38;generalize (w.alloc (Obj.cells C 59)).alloc (Obj.cells #[.int .i64 0,.bool false,.bool false,.int .u64 0] 38)=v1 at F ⊢;obtain ⟨h3,h4,l1,n1⟩:=F;have J3:Hid _:=aH (P:=Tryz.prog) (T:=59) h3 Tryz.underlying59 rfl (by rw [hsz];exact eV);go_wp2_with (first | ((with_reducible refine aK ?_ J3.out ?_);(exact rfl)));refine (CC.out v1).mono ?_;rintro e v2 ⟨rfl,n2⟩;obtain ⟨v3,hs3,P3,l3,n3⟩:=fV v2 #[.int .i64 0,.bool false,.bool false,.int .u64 0] #[.int .i64 m0,.bool s0,.bool x0,.int .u64 t0] 38 nQ rfl (qy _ _ _ _);have HS3:Hid _:=hs3;have S:CtxS w p f k v3 (w.heap.size+1) v2.heap.size m0 s0 x0 t0:=⟨(DrewN.refl hc).below (Below.step (Below.step n1 n2 (Nat.le_refl _)) n3 (Nat.le_refl _)) hp,ab (ab h4 n2 (by omega)) n3 (by have:=n2.size;omega),P3,by omega,by have:=n2.size;omega,by have:=n2.size;omega,hs⟩;clear h3 h4 J3 P3 l3 n3 n2 hs3;go_upto_region 2 with (first | ((with_reducible refine av ?_ ?_ HS3.out ?_);(exact rfl);(exact rfl)));generalize v2.heap.size=b5 at S ⊢;generalize w.heap.size+1=b4 at S ⊢;clear HS3 CC n1 l1 hs hsz;simp only [Act.put];go_cut [16] from 9 to 15 (fun s16 wx=>∃b k',s16=.bool b∧CtxS w p f k' wx b4 b5 m0 s0 x0 t0)
 case first=>
  obtain ⟨g5,c0, -, -, -,f5⟩:=S.low;clear f5;by_cases hm:¬(m0=2)
  ·have hm':(m0 == 2)=false:=by simpa using hm
   go_wp2_with fail;go_meet
   case rel=>exact ⟨_,_,rfl,S⟩
  ·obtain rfl:m0=2:=by omega
   go_wp2_with fail;refine (bD p f k 8 _ S.d.1 (by omega) (by omega)).mono ?_;rintro e v1 ⟨y,k1, -,hy,rfl,dd⟩;replace S:=S.draw hp dd;clear dd;go_wp2_with fail;go_meet
   case rel=>exact ⟨_,_,rfl,S⟩
 case rest=>
 obtain ⟨b,k0,rfl,S'⟩:=hcut;clear S;have S:=S';clear S';go_upto_if 16 with fail;go_cut [] from 17 to 19 (fun wx=>∃m k',CtxS w p f k' wx b4 b5 m s0 x0 t0)
 case first=>
  cases b
  ·go_wp2_with fail;go_meet
   case rel=>exact ⟨_,_,S⟩
  ·go_wp2_with fail;refine (bD p f k0 2 _ S.d.1 (by omega) (by omega)).mono ?_;rintro e v2 ⟨z,k2, -,hz,rfl,dd⟩;replace S:=S.draw hp dd;clear dd;obtain ⟨g5,c0, -, -, -,f5⟩:=S.low;have f0:=f5 0;clear f5;have S2:=S.put hp 0 (.int .i64 z) rfl S.bd;go_wp2_with fail;go_meet
   case rel=>exact ⟨_,_,S2⟩
 case rest=>
 obtain ⟨m1,k1,S'⟩:=hcut;clear S;have S:=S';clear S';go_wp2_with fail;refine (bD p f k1 14 _ S.d.1 (by omega) (by omega)).mono ?_;rintro e v3 ⟨x,k3, -,hx,rfl,dd⟩;replace S:=S.draw hp dd;clear dd;rcases (show x=0∨x=1∨x=2∨x=3∨4≤x by omega) with rfl | rfl | rfl | rfl | hx4
 ·go_wp2_with fail;refine (bD p f k3 5 _ S.d.1 (by omega) (by omega)).mono ?_;rintro e v4 ⟨z,k4, -,hz,rfl,dd⟩;replace S:=S.draw hp dd;clear dd;obtain ⟨g5,c0,c1,c2,c3,f5⟩:=S.low;have f0:=f5 0;have f1:=f5 1;have f2:=f5 2;have f3:=f5 3;clear f5;have S2:=S.put hp 0 (.int .i64 (z-1)) rfl S.bd;go_upto_region 14 with fail;clear g5 c0 c1 c2 c3 f0 f1 f2 f3;obtain ⟨j5,vE,hsE,hE,dE⟩:=S2.fin hp;have J5:Hid _:=j5;have HSE:Hid _:=hsE;have bE:=S2.bd;clear j5 hsE;go_wp2_with (first | ((with_reducible refine aK ?_ J5.out ?_);(exact rfl)) | ((with_reducible refine av ?_ ?_ HSE.out ?_);(exact rfl);(exact rfl)));refine dc (b:=b4) Tryz.results62 rfl hE rfl ?_;exact ⟨_,_,_,_,_,rfl,bE,dE⟩
 ·obtain ⟨g5,c0,c1,c2,c3,f5⟩:=S.low;have f0:=f5 0;have f1:=f5 1;have f2:=f5 2;have f3:=f5 3;clear f5;have S2:=S.put hp 1 (.bool (!s0)) rfl S.bd;have S3:=S2.put hp 2 (.bool (!x0)) rfl S.bd;go_upto_region 14 with fail;clear g5 c0 c1 c2 c3 f0 f1 f2 f3;obtain ⟨j5,vE,hsE,hE,dE⟩:=S3.fin hp;have J5:Hid _:=j5;have HSE:Hid _:=hsE;have bE:=S3.bd;clear j5 hsE;go_wp2_with (first | ((with_reducible refine aK ?_ J5.out ?_);(exact rfl)) | ((with_reducible refine av ?_ ?_ HSE.out ?_);(exact rfl);(exact rfl)));refine dc (b:=b4) Tryz.results62 rfl hE rfl ?_;exact ⟨_,_,_,_,_,rfl,bE,dE⟩
 ·go_wp2_with fail;refine (bD p f k3 2 _ S.d.1 (by omega) (by omega)).mono ?_;rintro e v5 ⟨z,k5, -,hz,rfl,dd⟩;replace S:=S.draw hp dd;clear dd;have bz:0≤iZ (1+z) 2∧iZ (1+z) 2≤18446744073709551615:=by rw [iZ];omega
  have CS:Hid (∀u,Calls Tryz.prog 65 #[.int .i64 (1+z),.int .i64 2] u fun e w'=>e=.returned (.int .u64 (iZ (1+z) 2))∧w'=u):=fun u=>lQ (1+z) 2 u (by omega) (by omega) (by omega) (by omega);generalize iZ (1+z) 2=sz at *;go_wp2_with fail;refine (CS.out _).mono ?_;rintro e _ ⟨rfl,rfl⟩;obtain ⟨g5,c0,c1,c2,c3,f5⟩:=S.low;have f0:=f5 0;have f1:=f5 1;have f2:=f5 2;have f3:=f5 3;clear f5;have S2:=S.put hp 3 (.int .u64 sz) rfl bz;go_upto_region 14 with fail;clear g5 c0 c1 c2 c3 f0 f1 f2 f3;obtain ⟨j5,vE,hsE,hE,dE⟩:=S2.fin hp;have J5:Hid _:=j5;have HSE:Hid _:=hsE;have bE:=S2.bd;clear j5 hsE;go_wp2_with (first | ((with_reducible refine aK ?_ J5.out ?_);(exact rfl)) | ((with_reducible refine av ?_ ?_ HSE.out ?_);(exact rfl);(exact rfl)));refine dc (b:=b4) Tryz.results62 rfl hE rfl ?_;exact ⟨_,_,_,_,_,rfl,bE,dE⟩
 ·go_wp2_with fail;refine (kP p f k3 _ S.d.1).mono ?_;rintro e v6 ⟨sz,k6, -,bz,rfl,dd⟩;replace S:=S.draw hp dd;clear dd;obtain ⟨g5,c0,c1,c2,c3,f5⟩:=S.low;have f0:=f5 0;have f1:=f5 1;have f2:=f5 2;have f3:=f5 3;clear f5;have S2:=S.put hp 3 (.int .u64 sz) rfl bz;go_upto_region 14 with fail;clear g5 c0 c1 c2 c3 f0 f1 f2 f3;obtain ⟨j5,vE,hsE,hE,dE⟩:=S2.fin hp;have J5:Hid _:=j5;have HSE:Hid _:=hsE;have bE:=S2.bd;clear j5 hsE;go_wp2_with (first | ((with_reducible refine aK ?_ J5.out ?_);(exact rfl)) | ((with_reducible refine av ?_ ?_ HSE.out ?_);(exact rfl);(exact rfl)));refine dc (b:=b4) Tryz.results62 rfl hE rfl ?_;exact ⟨_,_,_,_,_,rfl,bE,dE⟩
 ·have q0:(x == 0)=false:=by simp;omega
  have q1:(x == 1)=false:=by simp;omega
  have q2:(x == 2)=false:=by simp;omega
  have q3:(x == 3)=false:=by simp;omega
  go_upto_region 14 with fail;obtain ⟨j5,vE,hsE,hE,dE⟩:=S.fin hp;have J5:Hid _:=j5;have HSE:Hid _:=hsE;have bE:=S.bd;clear j5 hsE;go_wp2_with (first | ((with_reducible refine aK ?_ J5.out ?_);(exact rfl)) | ((with_reducible refine av ?_ ?_ HSE.out ?_);(exact rfl);(exact rfl)));refine dc (b:=b4) Tryz.results62 rfl hE rfl ?_;exact ⟨_,_,_,_,_,rfl,bE,dE⟩
end Go.Proofs.YthekickjjaleaaaGreat
