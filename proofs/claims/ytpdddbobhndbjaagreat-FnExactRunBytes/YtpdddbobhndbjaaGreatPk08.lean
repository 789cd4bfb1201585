import Derived.Test.YtpdddbobhndbjaaGreatPk07
namespace Go.Proofs.YtpdddbobhndbjaaGreat
open Go.RowKit
set_option linter.unusedVariables false
set_option maxHeartbeats 6400000
set_option maxRecDepth 20000
def sS (acc:List dQ) (r:Int × Int × Int × List dQ):Int × Int × Int × List dQ:=(r.1,r.2.1,r.2.2.1,acc++r.2.2.2)
theorem tG (zs:List Int) (va:Int) (k:Nat) (n:Int) (h:dP zs.length (64*n+8*dN va k) 8=false):cQ zs va k n=(3,(k:Int),0,[]):=by
 unfold cQ;rw [if_pos h]
theorem tH (zs:List Int) (va:Int) (k:Nat) (n:Int) (h:dP zs.length (64*n+8*dN va k) 8=true) (hk:bC (rdV zs (64*n+8*dN va k) 8) k=0):cQ zs va k n=(2,(k:Int),0,[]):=by
 unfold cQ;rw [if_neg (by rw [h];simp),if_pos hk]
theorem rK (zs:List Int) (va:Int) (k:Nat) (n:Int) (h:dP zs.length (64*n+8*dN va k) 8=true) (hk:bC (rdV zs (64*n+8*dN va k) 8) k=2):cQ zs va k n=(1,(k:Int),rdV zs (64*n+8*dN va k) 8,[((k:Int),64*n+8*dN va k,rdV zs (64*n+8*dN va k) 8)]):=by
 unfold cQ;rw [if_neg (by rw [h];simp),if_neg (by rw [hk];decide),if_pos hk]
theorem rL (zs:List Int) (va:Int) (k:Nat) (n:Int) (h:dP zs.length (64*n+8*dN va ((k+1:Nat):Int)) 8=true) (hk:bC (rdV zs (64*n+8*dN va ((k+1:Nat):Int)) 8) ((k+1:Nat):Int)=1):
 cQ zs va (k+1) n=sS [(((k+1:Nat):Int),64*n+8*dN va ((k+1:Nat):Int),rdV zs (64*n+8*dN va ((k+1:Nat):Int)) 8)] (cQ zs va k (dG (rdV zs (64*n+8*dN va ((k+1:Nat):Int)) 8))):=by
 rw [cQ,if_neg (by rw [h];simp),if_neg (by rw [hk];decide),if_neg (by rw [hk];decide)];rfl
theorem AK (a b:List dQ) (r:Int × Int × Int × List dQ):sS a (sS b r)=sS (a++b) r:=by
 simp [sS]
def xQ (base:Nat) (w':World) (e:Ending) (r:Int × Int × Int × List dQ):Prop:=
 ∃ra rc,e=.returned (.tuple #[.agg #[.int .i64 r.2.1,.int .u64 r.2.2.1,.slice ra r.2.2.2.length rc],cF r.1])∧w'.ownsRow base 223 3 (.slice ra r.2.2.2.length rc) r.2.2.2.length (cP r.2.2.2)
def yx (w:World) (p:Nat):Nat:=match w.cell? ⟨p,0,none⟩ with
 | some v=>(intOf v).toNat
 | none=>0
def SrcAt (w:World) (sv:Value) (zs:List Int):Prop:=
 ∃d x a len cap,sv=.iface d x∧(∀u,Bw w u->(method 395 d x "loop.example/s0051/impl.entryAt").run Tryz.prog u=.ok (206,.slice a len cap) u)∧Byt w a len zs∧len<=1048576
theorem SrcAt.keep {w w':World} {sv:Value} {zs:List Int} (h:SrcAt w sv zs) (hb:Bw w w'):SrcAt w' sv zs:=by
 obtain ⟨d,x,a,len,cap,rfl,hm,hB,hl⟩:=h;exact ⟨d,x,a,len,cap,rfl,fun u hu=>hm u (bst hb hu),hB.keep hb,hl⟩
theorem SrcAt.bd {w:World} {sv:Value} {zs:List Int} (h:SrcAt w sv zs):∀i:Nat,0<=zs[i]?.getD 0∧zs[i]?.getD 0<=255:=by
 obtain ⟨d,x,a,len,cap,rfl,hm,hB,hl⟩:=h;exact hB.2.1
theorem ka:∀a b:List dQ,cP (a++b)=cP a++cP b
 | [],b=>rfl
 | r::a,b=>by simp [cP,ka a b]
theorem nY (sv:Value) (zs:List Int) (va n:Int) (l:Nat) (w:World) (hB:SrcAt w sv zs) (hl:l<=2) (hv0:0<=va) (hv1:va<=18446744073709551615) (hn0:0<=n) (hn1:n<17592186044416):
 Calls Tryz.prog 176 #[sv,.int .u64 n,.int .i64 l,.int .u64 va] w fun e w'=>xQ w.heap.size w' e (cQ zs va l n)∧Bw w w':=by
 obtain ⟨dT,xS,a,len,cap,rfl,hm,hB,hlen⟩:=hB;have hz:=hB.1;have hzb:=hB.2.1;have HB:=hid hB;have HMt:Hid _:=hm;obtain ⟨X,hX⟩:∃X,cQ zs va l n=X:=⟨_,rfl⟩;have HX:Hid (X=sS [] (cQ zs va l n)):=by show _=_;rw [<-hX];rfl
 rw [hX];clear hX hB hm;have s0:Hid (((w.alloc (Obj.cells #[.int .i64 0,.int .u64 0,.slice none 0 0] 276)).alloc (Obj.cells #[.int .i64 l,.int .u64 0,.slice none 0 0] 276)).heap[w.heap.size+1]?=some (.cells #[.int .i64 l,.int .u64 0,.slice none 0 0] 276 (0,0))):=by
  have:=heap_alloc_new (w.alloc (Obj.cells #[.int .i64 0,.int .u64 0,.slice none 0 0] 276)) (Obj.cells #[.int .i64 l,.int .u64 0,.slice none 0 0] 276);simp only [World.size_alloc] at this;exact this
 have r0:Hid (((w.alloc (Obj.cells #[.int .i64 0,.int .u64 0,.slice none 0 0] 276)).alloc (Obj.cells #[.int .i64 l,.int .u64 0,.slice none 0 0] 276)).heap[w.heap.size]?=some (.cells #[.int .i64 0,.int .u64 0,.slice none 0 0] 276 (0,0))):=by
  show _=_;rw [heap_alloc_old _ _ (by simp)];exact heap_alloc_new w _
 have b0:Bw w ((w.alloc (Obj.cells #[.int .i64 0,.int .u64 0,.slice none 0 0] 276)).alloc (Obj.cells #[.int .i64 l,.int .u64 0,.slice none 0 0] 276)):=((Below.refl w.heap.size w).alloc nle _).alloc (by simp) _;go_enter Tryz.func176,Tryz.ntmps176;go_wp2_with fail;go_loopw [1] (fun tt wr=>∃(k:Nat) (n':Int) (ra:Option Addr) (rc:Nat) (acc:List dQ),k<=l∧tt=.int .u64 n'∧0<=n'∧n'<17592186044416∧acc.length+k<=2∧wr.heap[w.heap.size+1]?=some (.cells #[.int .i64 k,.int .u64 0,.slice ra acc.length rc] 276 (0,0))∧
  wr.heap[w.heap.size]?=some (.cells #[.int .i64 0,.int .u64 0,.slice none 0 0] 276 (0,0))∧wr.ownsRow (w.heap.size+2) 223 3 (.slice ra acc.length rc) acc.length (cP acc)∧Hid (X=sS acc (cQ zs va k n'))∧Bw w wr) (fun _ wr=>yx wr (w.heap.size+1))
 case atStart=>exact ⟨l,n,none,0,[],nle,rfl,hn0,hn1,by simpa using hl,s0.out,r0.out,World.ownsRow_nil _ _ _ _,HX,b0⟩
 case round=>
  clear s0 r0 b0 HX hn0 hn1;obtain ⟨k,n',ra,rc,acc,hk,rfl,hn0,hn1,hac,hS,hR,hO,HX,hb⟩:=hrel;have HS:=hid hS;have HR:=hid hR;have HO:=hid hO;have hlt:=(hpl hS);have HM:Hid (yx wr (w.heap.size+1)=k):=by
   show _=_;rw [yx,(aA hS).1.1];rfl
  obtain ⟨⟨c0,c1,c2⟩,e0,e1,e2⟩:=aA hS;clear hS hR hO;obtain ⟨ix,hix⟩:∃ix,dN va (k:Int)=ix:=⟨_,rfl⟩;have hib:=qG va (k:Int);rw [hix] at hib;obtain ⟨rv,hrv⟩:∃rv,rdV zs (64*n'+8*ix) 8=rv:=⟨_,rfl⟩;have hrb:=mH zs (64*n'+8*ix) 8 (by omega) hzb;rw [hrv] at hrb;have HI:=hid hix;have HV:Hid (rdV zs (64*n'+8*ix) 8=rv):=hrv;clear hix hrv;go_wp2_with fail;refine (uF n' k va wr hv0 hv1 (by omega) hn0 hn1).mono ?_;rintro e w' ⟨rfl,nq,rfl⟩;rw [HI.out];have HS1:Hid ((wr.drewN nq).heap[w.heap.size+1]?=some (.cells #[.int .i64 k,.int .u64 0,.slice ra acc.length rc] 276 (0,0))):=HS;have HR1:Hid ((wr.drewN nq).heap[w.heap.size]?=some (.cells #[.int .i64 0,.int .u64 0,.slice none 0 0] 276 (0,0))):=HR;have HO1:Hid ((wr.drewN nq).ownsRow (w.heap.size+2) 223 3 (.slice ra acc.length rc) acc.length (cP acc)):=HO;have hlt1:w.heap.size+1<(wr.drewN nq).heap.size:=hlt;have hb1:Bw w (wr.drewN nq):=below_drewN hb nq;generalize wr.drewN nq=v1 at HS1 HR1 HO1 hlt1 hb1 |-;clear c0 c1 c2 e0 e1 e2 HS HR HO hlt hb;obtain ⟨⟨c0,c1,c2⟩,e0,e1,e2⟩:=aA HS1.out;obtain ⟨⟨d0,d1,d2⟩,f0,f1,f2⟩:=aA HR1.out;have hm:=HMt.out v1 hb1;cases hg:dP len (64*n'+8*ix) 8
  ·have HG:Hid (dP len (64*n'+8*ix) 8=false):=hg;clear hg;go_wp2_with fail;refine (wQ a len cap (64*n'+8*ix) v1 hlen (by omega) (by omega) HG.out).mono ?_;rintro e w' ⟨rfl,rfl⟩;go_wp2_with fail;have hX:X=(3,(k:Int),0,acc):=by
    rw [HX.out,tG zs va k n' (by rw [hz,HI.out];exact HG.out)];simp [sS]
   refine bodyPost_ret (v:=.tuple #[.agg #[.int .i64 k,.int .u64 0,.slice ra acc.length rc],.iface 249 (.agg #[])]) (by simp [results,Tryz.results176,go_sem,d0,d1,d2]) rfl ?_;rw [hX];exact ⟨⟨ra,rc,rfl,aP (aI HO1.out (gb3 _ w.heap.size _ _ _) (by omega)) (by omega)⟩,fU hb1 nle _ _ _⟩
  ·have HG:Hid (dP len (64*n'+8*ix) 8=true):=hg;clear hg;go_wp2_with fail;refine (ye a len cap zs (64*n'+8*ix) v1 (HB.out.keep hb1) hlen (by omega) (by omega) HG.out).mono ?_;rintro e w' ⟨rfl,rfl⟩;rw [HV.out];rcases lM rv (k:Int) with hkd | hkd | hkd
   ·have HK:Hid (bC rv (k:Int)=0):=hkd;clear hkd;go_wp2_with fail;refine (nX rv k _ hrb.1 hrb.2).mono ?_;rintro e w' ⟨rfl,rfl⟩;rw [HK.out];go_wp2_with fail;have hX:X=(2,(k:Int),0,acc):=by
     rw [HX.out,tH zs va k n' (by rw [hz,HI.out];exact HG.out) (by rw [HI.out,HV.out];exact HK.out)];simp [sS]
    refine bodyPost_ret (v:=.tuple #[.agg #[.int .i64 k,.int .u64 0,.slice ra acc.length rc],.iface 248 (.agg #[])]) (by simp [results,Tryz.results176,go_sem,d0,d1,d2]) rfl ?_;rw [hX];exact ⟨⟨ra,rc,rfl,aP (aI HO1.out (gb3 _ w.heap.size _ _ _) (by omega)) (by omega)⟩,fU hb1 nle _ _ _⟩
   ·have HK:Hid (bC rv (k:Int)=1):=hkd;clear hkd;go_wp2_with fail;refine (nX rv k _ hrb.1 hrb.2).mono ?_;rintro e v3 ⟨rfl,rfl⟩;rw [HK.out];have n4:=(Below.refl v3.heap.size v3).alloc nle (Obj.cells #[.int .i64 k,.int .u64 (64*n'+8*ix),.int .u64 rv] 223);have HS4:Hid ((v3.alloc (Obj.cells #[.int .i64 k,.int .u64 (64*n'+8*ix),.int .u64 rv] 223)).heap[w.heap.size+1]?=some (.cells #[.int .i64 k,.int .u64 0,.slice ra acc.length rc] 276 (0,0))):=ae HS1.out n4 hlt1;have HR4:Hid ((v3.alloc (Obj.cells #[.int .i64 k,.int .u64 (64*n'+8*ix),.int .u64 rv] 223)).heap[w.heap.size]?=some (.cells #[.int .i64 0,.int .u64 0,.slice none 0 0] 276 (0,0))):=ae HR1.out n4 (by omega);have HO4:Hid ((v3.alloc (Obj.cells #[.int .i64 k,.int .u64 (64*n'+8*ix),.int .u64 rv] 223)).ownsRow (w.heap.size+2) 223 3 (.slice ra acc.length rc) acc.length (cP acc)):=aj HO1.out n4;have HW4:Hid (RowC (v3.alloc (Obj.cells #[.int .i64 k,.int .u64 (64*n'+8*ix),.int .u64 rv] 223)) (some ⟨v3.heap.size,0,none⟩) 1 3 (cP [((k:Int),64*n'+8*ix,rv)])):=(OwnC.new 223 3 v3 (cP [((k:Int),64*n'+8*ix,rv)]) 1 (by rfl) (by decide)).row;have l4:v3.heap.size<(v3.alloc (Obj.cells #[.int .i64 k,.int .u64 (64*n'+8*ix),.int .u64 rv] 223)).heap.size:=by simp
    have b4:Bw w (v3.alloc (Obj.cells #[.int .i64 k,.int .u64 (64*n'+8*ix),.int .u64 rv] 223)):=hb1.alloc (by omega) _;go_wp2_with (at_builtin;refine ld _ rfl (.tmp 43) (.tmp 49) 211 rfl 223 Tryz.underlying211 (.agg #[.int .i64 0,.int .u64 0,.int .u64 0]) 3 24 Tryz.infoRec rfl (by decide) (w.heap.size+2) acc.length _ (cP acc) rfl HO4.out v3.heap.size 0 1 1 (cP [((k:Int),64*n'+8*ix,rv)]) rfl (by omega) HW4.out (lL _) (by omega) (by omega) (by omega) (w.heap.size+2) _ (Below.refl _ _) nle ?_;intro g5 cp5 v5 o5 n5;have HO5:Hid (v5.ownsRow (w.heap.size+2) 223 3 (.slice (some ⟨g5,0,none⟩) (acc.length+1) cp5) (acc.length+1) (cP acc++cP [((k:Int),64*n'+8*ix,rv)])):=o5;have HS5:Hid (v5.heap[w.heap.size+1]?=some (.cells #[.int .i64 k,.int .u64 0,.slice ra acc.length rc] 276 (0,0))):=(n5.block _ (by omega)).trans HS4.out;have HR5:Hid (v5.heap[w.heap.size]?=some (.cells #[.int .i64 0,.int .u64 0,.slice none 0 0] 276 (0,0))):=(n5.block _ (by omega)).trans HR4.out;have b5:Bw w v5:=b4.trans (n5.mono (by omega));have l5:=n5.size;clear c0 c1 c2 e0 e1 e2 d0 d1 d2 f0 f1 f2 o5;obtain ⟨⟨c0,c1,c2⟩,e0,e1,e2⟩:=aA HS5.out;obtain ⟨⟨d0,d1,d2⟩,f0,f1,f2⟩:=aA HR5.out;clear n5 n4 HS4 HR4 HO4 HW4 b4 HS1 HR1 HO1);have HS6:Hid ((v5.setCell ⟨w.heap.size+1,2,none⟩ (.slice (some ⟨g5,0,none⟩) (acc.length+1) cp5)).heap[w.heap.size+1]?=some (.cells #[.int .i64 k,.int .u64 0,.slice (some ⟨g5,0,none⟩) (acc.length+1) cp5] 276 (0,0))):=CL HS5.out;have m6:=ak (aq v5 (some (w.heap.size+1))) 2 (.slice (some ⟨g5,0,none⟩) (acc.length+1) cp5);have HR6:Hid ((v5.setCell ⟨w.heap.size+1,2,none⟩ (.slice (some ⟨g5,0,none⟩) (acc.length+1) cp5)).heap[w.heap.size]?=some (.cells #[.int .i64 0,.int .u64 0,.slice none 0 0] 276 (0,0))):=aC HR5.out m6 (by omega);have HO6:Hid ((v5.setCell ⟨w.heap.size+1,2,none⟩ (.slice (some ⟨g5,0,none⟩) (acc.length+1) cp5)).ownsRow (w.heap.size+2) 223 3 (.slice (some ⟨g5,0,none⟩) (acc.length+1) cp5) (acc.length+1) (cP acc++cP [((k:Int),64*n'+8*ix,rv)])):=aI HO5.out m6 (by omega);have b6:=b5.setCell (p:=⟨w.heap.size+1,2,none⟩) (by show w.heap.size<=w.heap.size+1;omega) (.slice (some ⟨g5,0,none⟩) (acc.length+1) cp5);refine (uo rv _ hrb.1 hrb.2).mono ?_;rintro e w' ⟨rfl,rfl⟩;generalize v5.setCell ⟨w.heap.size+1,2,none⟩ (.slice (some ⟨g5,0,none⟩) (acc.length+1) cp5)=v6 at HS6 HR6 HO6 b6 |-;clear c0 c1 c2 e0 e1 e2 d0 d1 d2 f0 f1 f2 m6 HS5 HR5 HO5 b5;obtain ⟨⟨c0,c1,c2⟩,e0,e1,e2⟩:=aA HS6.out;have hpb:=qH rv;obtain ⟨pp,hpp⟩:∃pp,dG rv=pp:=⟨_,rfl⟩;have HP:Hid (dG rv=pp):=hpp;rw [hpp] at hpb |-;clear hpp;obtain ⟨k',rfl⟩:∃k',k=k'+1:=by
     cases k with
     | zero=>exact absurd HK.out (iT _)
     | succ k'=>exact ⟨k',rfl⟩
    go_wp2_with fail;go_roundw
    case rel=>
     refine ⟨k',pp,some ⟨g5,0,none⟩,cp5,acc++[(((k'+1:Nat):Int),64*n'+8*ix,rv)],by omega,rfl,hpb.1,hpb.2,by simp;omega,?_,?_,?_,?_,?_⟩
     ·rw [show (acc++[(((k'+1:Nat):Int),64*n'+8*ix,rv)]).length=acc.length+1 by simp,show ((k':Nat):Int)=((k'+1:Nat):Int)-1 by omega];exact CK HS6.out
     ·exact aC HR6.out (ak (aq v6 (some (w.heap.size+1))) 0 _) (by omega)
     ·rw [show (acc++[(((k'+1:Nat):Int),64*n'+8*ix,rv)]).length=acc.length+1 by simp,ka];exact aI HO6.out (ak (aq v6 (some (w.heap.size+1))) 0 _) (by omega)
     ·show _=_;rw [HX.out,rL zs va k' n' (by rw [hz,HI.out];exact HG.out) (by rw [HI.out,HV.out];exact HK.out),AK,HI.out,HV.out,HP.out]
     ·exact b6.setCell (p:=⟨w.heap.size+1,0,none⟩) (by show w.heap.size<=w.heap.size+1;omega) _
    case measure=>
     rw [HM.out,yx,(aA (CK HS6.out)).1.1];simp [intOf]
   ·have HK:Hid (bC rv (k:Int)=2):=hkd;clear hkd;go_wp2_with fail;refine (nX rv k _ hrb.1 hrb.2).mono ?_;rintro e v3 ⟨rfl,rfl⟩;rw [HK.out];have n4:=(Below.refl v3.heap.size v3).alloc nle (Obj.cells #[.int .i64 k,.int .u64 (64*n'+8*ix),.int .u64 rv] 223);have HS4:=hid (ae HS1.out n4 hlt1);have HR4:=hid (ae HR1.out n4 (by omega));have HO4:=hid (aj HO1.out n4);have HW4:=hid ((OwnC.new 223 3 v3 (cP [((k:Int),64*n'+8*ix,rv)]) 1 (by rfl) (by decide)).row);have l4:v3.heap.size<(v3.alloc (Obj.cells #[.int .i64 k,.int .u64 (64*n'+8*ix),.int .u64 rv] 223)).heap.size:=by simp
    have b4:Bw w (v3.alloc (Obj.cells #[.int .i64 k,.int .u64 (64*n'+8*ix),.int .u64 rv] 223)):=hb1.alloc (by omega) _;go_wp2_with (at_builtin;refine ld _ rfl (.tmp 43) (.tmp 49) 211 rfl 223 Tryz.underlying211 (.agg #[.int .i64 0,.int .u64 0,.int .u64 0]) 3 24 Tryz.infoRec rfl (by decide) (w.heap.size+2) acc.length _ (cP acc) rfl HO4.out v3.heap.size 0 1 1 (cP [((k:Int),64*n'+8*ix,rv)]) rfl (by omega) HW4.out (lL _) (by omega) (by omega) (by omega) (w.heap.size+2) _ (Below.refl _ _) nle ?_;intro g5 cp5 v5 o5 n5;have HO5:Hid (v5.ownsRow (w.heap.size+2) 223 3 (.slice (some ⟨g5,0,none⟩) (acc.length+1) cp5) (acc.length+1) (cP acc++cP [((k:Int),64*n'+8*ix,rv)])):=o5;have HS5:Hid (v5.heap[w.heap.size+1]?=some (.cells #[.int .i64 k,.int .u64 0,.slice ra acc.length rc] 276 (0,0))):=(n5.block _ (by omega)).trans HS4.out;have HR5:Hid (v5.heap[w.heap.size]?=some (.cells #[.int .i64 0,.int .u64 0,.slice none 0 0] 276 (0,0))):=(n5.block _ (by omega)).trans HR4.out;have b5:Bw w v5:=b4.trans (n5.mono (by omega));have l5:=n5.size;clear c0 c1 c2 e0 e1 e2 d0 d1 d2 f0 f1 f2 o5;obtain ⟨⟨c0,c1,c2⟩,e0,e1,e2⟩:=aA HS5.out;obtain ⟨⟨d0,d1,d2⟩,f0,f1,f2⟩:=aA HR5.out;clear n5 n4 HS4 HR4 HO4 HW4 b4 HS1 HR1 HO1);have hX:X=(1,(k:Int),rv,acc++[((k:Int),64*n'+8*ix,rv)]):=by
     rw [HX.out,rK zs va k n' (by rw [hz,HI.out];exact HG.out) (by rw [HI.out,HV.out];exact HK.out),HI.out,HV.out];rfl
    refine bodyPost_ret (v:=.tuple #[.agg #[.int .i64 k,.int .u64 rv,.slice (some ⟨g5,0,none⟩) (acc.length+1) cp5],.nilIface]) (by simp [results,Tryz.results176,go_sem,d0,d1,d2]) rfl ?_;rw [hX];refine ⟨⟨some ⟨g5,0,none⟩,cp5,?_,?_⟩,fU ((b5.setCell (p:=⟨w.heap.size+1,2,none⟩) (by show w.heap.size<=w.heap.size+1;omega) _).setCell (p:=⟨w.heap.size+1,1,none⟩) (by show w.heap.size<=w.heap.size+1;omega) _) nle _ _ _⟩
    ·simp [cF]
    ·rw [show (acc++[((k:Int),64*n'+8*ix,rv)]).length=acc.length+1 by simp,ka];exact aP (aI (aI HO5.out (ak (ak (aq v5 (some (w.heap.size+1))) 2 _) 1 _) (by omega)) (gb3 _ w.heap.size _ _ _) (by omega)) (by omega)
theorem sf (va l:Int) (hl:l=0∨l=1∨l=2):0<=fJ va l∧fJ va l<=511:=by
 rcases hl with rfl | rfl | rfl <;> simp only [fJ] <;> (try simp) <;> omega
theorem Cv {t:TlbM} {p:Bool} {va asid l:Int} {q:Nat} {x:EntM} (hv:aQ t p=true) (hx:t.es[q]?=some x) (hh:gW va asid l x=true):(q:Int)/t.ways=fJ va l%t.sets:=by
 have hp:=jP hv q x hx;simp only [gW,kR,Bool.and_eq_true,beq_iff_eq] at hh;obtain ⟨h1,⟨h2,h3⟩,_⟩:=hh;simp only [cy,Bool.or_eq_true,Bool.and_eq_true,beq_iff_eq] at hp;rcases hp with hp | hp
 ·rw [h2] at hp;simp at hp
 ·rw [<-hp.2,h3,h1]
theorem wy {t:TlbM} {p:Bool} (hv:aQ t p=true):(t.sets=1∨t.sets=2∨t.sets=4∨t.sets=8)∧1<=t.ways∧t.ways<=4∧(t.es.length:Int)=t.sets*t.ways:=fl hv
theorem uC {t:TlbM} {p:Bool} {va asid l:Int} {q f:Nat} {x:EntM} (hv:aQ t p=true) (hx:t.es[q]?=some x) (hf:(f:Int)=fJ va l%t.sets*t.ways) (hq:q<f∨(f:Int)+t.ways<=q):gW va asid l x=false:=by
 cases hh:gW va asid l x
 ·rfl
 ·exfalso;have h1:=Cv hv hx hh;obtain ⟨_,w1,w4,_⟩:=wy hv;rw [<-h1] at hf;rcases (show t.ways=1∨t.ways=2∨t.ways=3∨t.ways=4 by omega) with hw | hw | hw | hw <;> rw [hw] at hf hq <;> omega
theorem zL {t:TlbM} {p:Bool} {va asid l:Int} {f:Nat} (hv:aQ t p=true) (hf:(f:Int)=fJ va l%t.sets*t.ways)
 (h:∀(j:Nat) x,(j:Int)<t.ways->t.es[f+j]?=some x->gW va asid l x=false):dR va asid l 0 t.es=none:=by
 refine mC va asid l t.es 0 (fun j x hx=>?_);by_cases h1:j<f
 ·exact uC hv hx hf (.inl h1)
 ·by_cases h2:(f:Int)+t.ways<=j
  ·exact uC hv hx hf (.inr h2)
  ·exact h (j-f) x (by omega) (by rw [show f+(j-f)=j by omega];exact hx)
theorem zM {t:TlbM} {p:Bool} {va asid l:Int} {f k:Nat} {x:EntM} (hv:aQ t p=true) (hf:(f:Int)=fJ va l%t.sets*t.ways) (hx:t.es[f+k]?=some x) (hh:gW va asid l x=true)
 (h:∀(j:Nat) y,j<k->t.es[f+j]?=some y->gW va asid l y=false):dR va asid l 0 t.es=some (f+k,x):=by
 have:=mD va asid l t.es 0 (f+k) x hx hh (fun j y hj hy=>by
  by_cases h1:j<f
  ·exact uC hv hy hf (.inl h1)
  ·exact h (j-f) y (by omega) (by rw [show f+(j-f)=j by omega];exact hy))
 rw [Nat.zero_add] at this;exact this
theorem tN (va asid l:Int):∀(es:List EntM) (i k:Nat) (x:EntM),dR va asid l i es=some (k,x)->∃j,k=i+j∧es[j]?=some x∧gW va asid l x=true
 | [],i,k,x,h=>by cases h
 | e::r,i,k,x,h=>by
  rw [dR] at h;split at h
  ·rename_i hh;cases h;exact ⟨0,rfl,rfl,hh⟩
  ·obtain ⟨j,rfl,h2,h3⟩:=tN va asid l r (i+1) k x h;exact ⟨j+1,by omega,by simpa using h2,h3⟩
theorem lX (t:TlbM) (va asid:Int) (h:(ba t va asid).1=true):∃(k:Nat) (x:EntM),t.es[k]?=some x∧(ba t va asid).2.1=(k:Int)∧(ba t va asid).2.2.1=x.level∧(ba t va asid).2.2.2=x.pte∧kR x va asid=true∧x.valid=true:=by
 have key:∀(l:Int) (k:Nat) (x:EntM),dR va asid l 0 t.es=some (k,x)->t.es[k]?=some x∧l=x.level∧kR x va asid=true∧x.valid=true:=by
  intro l k x hf;obtain ⟨j,rfl,h2,h3⟩:=tN va asid l t.es 0 k x hf;simp only [gW,Bool.and_eq_true,beq_iff_eq] at h3;have hv:x.valid=true:=by
   have:=h3.2;simp only [kR,Bool.and_eq_true] at this;exact this.1.1
  exact ⟨by rw [Nat.zero_add];exact h2,h3.1.symm,h3.2,hv⟩
 unfold ba at h |-;split at h
 ·cases h
 ·rename_i he;rw [if_neg he];cases h0:dR va asid 0 0 t.es with
  | some y=>
   obtain ⟨k,x⟩:=y;obtain ⟨a1,a2,a3,a4⟩:=key 0 k x h0;exact ⟨k,x,a1,by simp [iq],by simp [iq,<-a2],by simp [iq],a3,a4⟩
  | none=>
   cases h1:dR va asid 1 0 t.es with
   | some y=>
    obtain ⟨k,x⟩:=y;obtain ⟨a1,a2,a3,a4⟩:=key 1 k x h1;exact ⟨k,x,a1,by simp [iq],by simp [iq,<-a2],by simp [iq],a3,a4⟩
   | none=>
    cases h2:dR va asid 2 0 t.es with
    | some y=>
     obtain ⟨k,x⟩:=y;obtain ⟨a1,a2,a3,a4⟩:=key 2 k x h2;exact ⟨k,x,a1,by simp [iq],by simp [iq,<-a2],by simp [iq],a3,a4⟩
    | none=>
     rw [h0,h1,h2] at h;simp [iq] at h
theorem wA {t:TlbM} {va asid i l pt:Int} (h:ba t va asid=(false,i,l,pt)):(i,l,pt)=(0,0,0):=by
 unfold ba at h;split at h
 ·cases h;rfl
 ·cases h0:dR va asid 0 0 t.es with
  | some y=>simp [h0,iq] at h
  | none=>
   cases h1:dR va asid 1 0 t.es with
   | some y=>simp [h0,h1,iq] at h
   | none=>
    cases h2:dR va asid 2 0 t.es with
    | some y=>simp [h0,h1,h2,iq] at h
    | none=>
     simp [h0,h1,h2,iq] at h;obtain ⟨rfl,rfl,rfl⟩:=h;rfl
def rt (r:Int × Int × Int × List dQ) (k:Nat) (ps:List dQ):Prop:=
 (∀p∈ps,bC p.2.2 p.1=1∧0<=p.1∧p.1<=k∧0<=p.2.2∧p.2.2<=18446744073709551615)∧
 ((r.1=1∧(∃ad,r.2.2.2=ps++[(r.2.1,ad,r.2.2.1)])∧bC r.2.2.1 r.2.1=2∧0<=r.2.1∧r.2.1<=k∧0<=r.2.2.1∧r.2.2.1<=18446744073709551615)∨((r.1=2∨r.1=3)∧r.2.2.2=ps∧r.2.2.1=0))
theorem xF (level:Int):bC 0 level≠2:=by
 unfold bC;split
 ·decide
 ·simp [bR];split <;> omega
theorem kM (zs:List Int) (va:Int) (hz:∀i:Nat,0<=zs[i]?.getD 0∧zs[i]?.getD 0<=255):∀(k:Nat) (n:Int),∃ps,rt (cQ zs va k n) k ps∧ps.length<=k
 | k,n=>by
  cases hg:dP zs.length (64*n+8*dN va k) 8
  ·rw [tG zs va k n hg];exact ⟨[],⟨by simp,.inr ⟨.inr rfl,rfl,rfl⟩⟩,by simp⟩
  ·have hb:=mH zs (64*n+8*dN va k) 8 (by omega) hz;rcases lM (rdV zs (64*n+8*dN va k) 8) (k:Int) with hk | hk | hk
   ·rw [tH zs va k n hg hk];exact ⟨[],⟨by simp,.inr ⟨.inl rfl,rfl,rfl⟩⟩,by simp⟩
   ·cases k with
    | zero=>exact absurd hk (iT _)
    | succ k'=>
     rw [rL zs va k' n hg hk];obtain ⟨ps,⟨h1,h2⟩,h3⟩:=kM zs va hz k' (dG (rdV zs (64*n+8*dN va ((k'+1:Nat):Int)) 8));refine ⟨(((k'+1:Nat):Int),64*n+8*dN va ((k'+1:Nat):Int),rdV zs (64*n+8*dN va ((k'+1:Nat):Int)) 8)::ps,⟨?_,?_⟩,by simp;omega⟩
     ·intro p hp;rcases List.mem_cons.1 hp with rfl | hp
      ·exact ⟨hk,by simp only;omega,by simp only;omega,hb.1,hb.2⟩
      ·obtain ⟨q1,q2,q3,q4⟩:=h1 p hp;exact ⟨q1,q2,by omega,q4⟩
     ·simp only [sS];rcases h2 with ⟨e1,⟨ad,e2⟩,e3,e4,e5,e6⟩ | ⟨e1,e2,e3⟩
      ·exact .inl ⟨e1,⟨ad,by rw [e2];rfl⟩,e3,e4,by omega,e6⟩
      ·exact .inr ⟨e1,by rw [e2];rfl,e3⟩
   ·rw [rK zs va k n hg hk];exact ⟨[],⟨by simp,.inl ⟨rfl,⟨_,rfl⟩,hk,by simp only;omega,Int.le_refl _,hb.1,hb.2⟩⟩,by simp⟩
theorem vx (zs:List Int) (root va:Int) (hz:∀i:Nat,0<=zs[i]?.getD 0∧zs[i]?.getD 0<=255):∃ps,rt (dv zs root va) 2 ps∧ps.length<=2:=by
 unfold dv;split
 ·exact ⟨[],⟨by simp,.inr ⟨.inl rfl,rfl,rfl⟩⟩,by simp⟩
 ·exact kM zs va hz 2 _
theorem xG {r:Int × Int × Int × List dQ} {k k':Nat} {ps:List dQ} (h:rt r k ps) (hk:k<=k'):rt r k' ps:=by
 obtain ⟨h1,h2⟩:=h;refine ⟨fun p hp=>?_,?_⟩
 ·obtain ⟨q1,q2,q3,q4⟩:=h1 p hp;exact ⟨q1,q2,by omega,q4⟩
 ·rcases h2 with ⟨e1,e2,e3,e4,e5,e6⟩ | h2
  ·exact .inl ⟨e1,e2,e3,e4,by omega,e6⟩
  ·exact .inr h2
theorem mt (zs:List Int) (satp va:Int) (t:TlbM) (asid:Int) (ht:aQ t true=true) (hz:∀i:Nat,0<=zs[i]?.getD 0∧zs[i]?.getD 0<=255):∃ps,rt (bj zs satp va (ba t va asid)) 2 ps∧ps.length<=2:=by
 unfold bj;split
 ·rename_i hf;obtain ⟨q,x,h1,h2,h3,h4,h5,h6⟩:=lX t va asid hf;have hl:=dY (dM ht) q x h1 h6;have hle:((ba t va asid).2.2.1-1).toNat<=2:=by rw [h3];omega
  obtain ⟨ps,a1,a2⟩:=kM zs va hz ((ba t va asid).2.2.1-1).toNat (dG (ba t va asid).2.2.2);exact ⟨ps,xG a1 hle,by omega⟩
 ·exact vx zs satp va hz
theorem jg (va satp pick:Int):∀(a b:List dQ) (p:TlbM),cG va satp pick (a++b) p=cG va satp pick b (cG va satp pick a p)
 | [],b,p=>rfl
 | r::a,b,p=>by
  rw [List.cons_append,cG,cG];exact jg va satp pick a b _
theorem eX (t:TlbM) (e:EntM) (pick:Int):(dg t e pick).es.length=t.es.length∧(dg t e pick).sets=t.sets∧(dg t e pick).ways=t.ways:=by
 unfold dg;split
 ·simp
 ·exact ⟨rfl,rfl,rfl⟩
theorem kN (va satp pick:Int):∀(rs:List dQ) (p:TlbM),(cG va satp pick rs p).es.length=p.es.length∧(cG va satp pick rs p).sets=p.sets∧(cG va satp pick rs p).ways=p.ways
 | [],p=>⟨rfl,rfl,rfl⟩
 | r::rs,p=>by
  rw [cG];have ih:=kN va satp pick rs (if bC r.2.2 r.1=1 then dg p (eH r.1 va satp r.2.2) pick else p);split at ih
  ·rename_i hk;rw [if_pos hk];have h:=eX p (eH r.1 va satp r.2.2) pick;exact ⟨ih.1.trans h.1,ih.2.1.trans h.2.1,ih.2.2.trans h.2.2⟩
  ·rename_i hk;rw [if_neg hk];exact ih
theorem xH {r:Int × Int × Int × List dQ} {k:Nat} {ps:List dQ} (va satp pick:Int) (p:TlbM) (h:rt r k ps):cG va satp pick r.2.2.2 p=cG va satp pick ps p:=by
 rcases h.2 with ⟨_,⟨ad,e⟩,hk,_⟩ | ⟨_,e,_⟩
 ·rw [e,jg];rw [cG,cG,if_neg (by simp only;omega)]
 ·rw [e]
theorem uK (t:TlbM) (va asid:Int) (he:∀e∈t.es,eU e) (h:(ba t va asid).1=true):(0<=(ba t va asid).2.2.2∧(ba t va asid).2.2.2<=18446744073709551615)∧(-9223372036854775808<=(ba t va asid).2.2.1∧(ba t va asid).2.2.1<=9223372036854775807):=by
 obtain ⟨k,x,hx,_,hl,hp,_⟩:=lX t va asid h;have hk:=he x (List.mem_of_getElem? hx);rw [hl,hp];exact ⟨hk.2.2.2,hk.1⟩
theorem tK (zs:List Int) (root va:Int):(dv zs root va).2.2.2.length<=3:=by
 unfold dv;split
 ·simp
 ·exact lV zs va 2 _
structure WalkLim (r:Int × Int × Int × List dQ):Prop where
 len:r.2.2.2.length<=3
 pte:0<=r.2.2.1∧r.2.2.1<=18446744073709551615
 level:0<=r.2.1∧r.2.1<=2
 recs:∀x∈r.2.2.2,(0<=x.1∧x.1<=2)∧0<=x.2.2∧x.2.2<=18446744073709551615
theorem rT {r:Int × Int × Int × List dQ} {ps:List dQ} (h:rt r 2 ps):∀x∈r.2.2.2,(0<=x.1∧x.1<=2)∧0<=x.2.2∧x.2.2<=18446744073709551615:=by
 obtain ⟨h1,h2⟩:=h;intro x hx;rcases h2 with ⟨_,⟨ad,e⟩,_,e4,e5,e6,e7⟩ | ⟨_,e,_⟩
 ·rw [e] at hx;rcases List.mem_append.1 hx with hx | hx
  ·obtain ⟨_,q2,q3,q4,q5⟩:=h1 x hx;exact ⟨⟨q2,by omega⟩,q4,q5⟩
  ·have:x=(r.2.1,ad,r.2.2.1):=by simpa using hx
   subst this;exact ⟨⟨e4,by omega⟩,e6,e7⟩
 ·rw [e] at hx;obtain ⟨_,q2,q3,q4,q5⟩:=h1 x hx;exact ⟨⟨q2,by omega⟩,q4,q5⟩
theorem nZ (zs:List Int) (satp va:Int) (t:TlbM) (asid:Int) (ht:aQ t true=true) (he:∀e∈t.es,eU e) (hz:∀i:Nat,0<=zs[i]?.getD 0∧zs[i]?.getD 0<=255):
 ((ba t va asid).1=true->∃l:Nat,(ba t va asid).2.2.1=(l:Int)+1∧l<=1∧0<=(ba t va asid).2.2.2∧(ba t va asid).2.2.2<=18446744073709551615∧bj zs satp va (ba t va asid)=cQ zs va l (dG (ba t va asid).2.2.2))∧
 ((ba t va asid).1=false->bj zs satp va (ba t va asid)=dv zs satp va)∧WalkLim (bj zs satp va (ba t va asid)):=by
 obtain ⟨ps,hs,_⟩:=mt zs satp va t asid ht hz;cases hf:(ba t va asid).1
 ·have e:bj zs satp va (ba t va asid)=dv zs satp va:=by rw [bj,if_neg (by rw [hf];simp)]
  have hb:=rQ zs satp va hz;refine ⟨fun h=>(by cases h),fun _=>e,?_⟩;have hr:=rT hs;rw [e] at hr |-;exact ⟨tK zs satp va,⟨hb.1,hb.2.1⟩,hb.2.2,hr⟩
 ·obtain ⟨q,x,h1,h2,h3,h4,h5,h6⟩:=lX t va asid hf;have hl:=dY (dM ht) q x h1 h6;have hpl:=jP ht q x h1;have hlim:=(uK t va asid he hf).1;have hk1:x.level≠0:=by
   intro h0;have hg:aY x true=true:=by
    simp only [cy,Bool.or_eq_true,Bool.and_eq_true] at hpl;have h7:aY x true=true∧x.tag%t.sets=q/t.ways:=by simpa [h6] using hpl
    exact h7.1
   have:=zN hg;rw [h0] at this;exact iT _ this
  have e:bj zs satp va (ba t va asid)=cQ zs va ((ba t va asid).2.2.1-1).toNat (dG (ba t va asid).2.2.2):=by rw [bj,if_pos hf]
  have hb:=rP zs va hz ((ba t va asid).2.2.1-1).toNat (dG (ba t va asid).2.2.2) (by rw [h3];omega);refine ⟨fun _=>⟨((ba t va asid).2.2.1-1).toNat,by rw [h3];omega,by rw [h3];omega,hlim.1,hlim.2,e⟩,fun h=>(by cases h),?_⟩;have hr:=rT hs;have hln:=lV zs va ((ba t va asid).2.2.1-1).toNat (dG (ba t va asid).2.2.2);rw [e] at hr |-;exact ⟨by rw [h3] at hln |-;omega,⟨hb.1,hb.2.1⟩,hb.2.2,hr⟩
section
attribute [local go_sem ↓] Go.wp_at_zero Go.wp_at_succ
theorem Tryz.infoEnt:(Tryz.prog.info? 121).map (fun i=>(i.zero,i.size,i.bytes))=some (some (.agg #[.bool false,.int .i64 0,.int .u64 0,.int .u64 0,.bool false,.int .u64 0]),6,48):=by kernel_rfl
theorem oV:∀es:List EntM,∀u∈aR es,u.oneCell'=true
 | [],u,h=>by simp [aR] at h
 | e::r,u,h=>by
  simp only [aR,List.mem_append] at h;rcases h with h | h
  ·simp [jr] at h;rcases h with rfl | rfl | rfl | rfl | rfl | rfl <;> rfl
  ·exact oV r u h
def TlbOwn (base:Nat) (w:World) (v:Value) (t:TlbM):Prop:=
 ∃g cap,v=.agg #[.int .i64 t.sets,.int .i64 t.ways,.slice (some ⟨g,0,none⟩) t.es.length cap]∧w.ownsRow base 121 6 (.slice (some ⟨g,0,none⟩) t.es.length cap) t.es.length (aR t.es)
theorem hZ (v:Value) (t:TlbM) (w:World) (h:TlbAt w v t):
 Calls Tryz.prog 61 #[v] w fun e w'=>(∃x,e=.returned x∧TlbOwn w.heap.size w' x t)∧Bw w w':=by
 have HT:=hid h;obtain ⟨a,cap,rfl,hr,_,_,_,hl,hlc,hcm,hnil,hsp⟩:=h;obtain ⟨sets,ways,es⟩:=t;obtain ⟨n,hn⟩:∃n,es.length=n:=⟨_,rfl⟩;simp only at hr hl hlc hnil |-;rw [hn] at hr hl hlc hnil |-;obtain ⟨v1,Ev1,n1,H1,H2,l1⟩:=al2 w #[.int .i64 sets,.int .i64 ways,.slice a n cap] #[.int .i64 0,.int .i64 0,.slice none 0 0] 37 37;have HR1:=hid (hr.keep n1);have HN:=hid hnil;have HSp:=hid hsp;clear hr hnil hsp HT;go_enter Tryz.func61,Tryz.ntmps61;go_wp2_with fail;rw [Ev1.out];clear Ev1;obtain ⟨⟨c0,c1,c2⟩,_,_,_⟩:=aA H1.out;obtain ⟨⟨d0,d1,d2⟩,e0,e1,e2⟩:=aA H2.out;have ne1:v1.heap.size≠w.heap.size:=by omega
 have ne2:w.heap.size≠v1.heap.size:=by omega
 have ne3:v1.heap.size≠w.heap.size+1:=by omega
 have ne4:w.heap.size+1≠v1.heap.size:=by omega
 have n2:=((Below.refl v1.heap.size v1).alloc nle (Obj.cells #[] 121)).drew;go_region_held3 (fun w'=>w'.cell? ⟨w.heap.size,0,none⟩=some (.int .i64 sets)∧w'.cell? ⟨w.heap.size,1,none⟩=some (.int .i64 ways)∧w'.cell? ⟨w.heap.size,2,none⟩=some (.slice a n cap)) (go_keep)
  (first
   | (refine mr _ (by rfl) (.tmp 7) (.tmp 9) 35 (by rfl) 121 Tryz.underlying35 (.agg #[.bool false,.int .i64 0,.int .u64 0,.int .u64 0,.bool false,.int .u64 0]) 6 48 Tryz.infoEnt (by rfl) (by decide) v1.heap.size v1.heap.size 0 0 [] (by rfl) (OwnC.new 121 6 v1.drew [] 0 (by rfl) (by decide)) a n cap (aR es) (by rfl) HN.out HSp.out (RowC.keep HR1.out n2) (oV es) (by omega) (by omega) v1.heap.size v1 n2 nle ?_;intro g3 c3 v3 o3 n3;have k1:=aA (ae H1.out n3 (by omega));have k2:=aA (ae H2.out n3 l1);obtain ⟨⟨q0,q1,q2⟩,_,_,_⟩:=k1;obtain ⟨⟨j0,j1,j2⟩,i0,i1,i2⟩:=k2;have l3:=n3.size;have O3:Hid (OwnC 121 6 v3 v1.heap.size g3 (0+n) c3 ([]++aR es)):=o3;clear o3))
 go_wp2_with fail;have O4:v3.ownsRow v1.heap.size 121 6 (.slice (some ⟨g3,0,none⟩) n c3) n (aR es):=by
  have:=O3.out;rw [Nat.zero_add,List.nil_append] at this;exact this
 refine bodyPost_ret (v:=.agg #[.int .i64 sets,.int .i64 ways,.slice (some ⟨g3,0,none⟩) n c3]) (by simp [results,Tryz.results61,go_sem,j0,j1,j2]) rfl ⟨⟨_,rfl,g3,c3,by rw [hn],?_⟩,fU (bst n1 n3) (by omega) _ _ _⟩;rw [hn];exact aP (aI O4 (gb3 v3 (w.heap.size+1) _ _ _) l1) (by omega)
theorem TlbOwn.row {base:Nat} {w:World} {v:Value} {t:TlbM} (h:TlbOwn base w v t):∃g cap,v=.agg #[.int .i64 t.sets,.int .i64 t.ways,.slice (some ⟨g,0,none⟩) t.es.length cap]∧RowC w (some ⟨g,0,none⟩) t.es.length 6 (aR t.es)∧base<=g∧g<w.heap.size:=by
 obtain ⟨g,cap,rfl,ho⟩:=h;have:=bZ ho;exact ⟨g,cap,rfl,ef ho,this.2.1,this.2.2⟩
theorem TlbOwn.keep {base:Nat} {w w':World} {v:Value} {t:TlbM} (h:TlbOwn base w v t) (hb:Bw w w'):TlbOwn base w' v t:=by
 obtain ⟨g,cap,rfl,ho⟩:=h;exact ⟨g,cap,rfl,aj ho hb⟩
def fy (t:TlbM):Prop:=
 (∀e∈t.es,eU e)∧(-9223372036854775808<=t.sets∧t.sets<=9223372036854775807)∧(-9223372036854775808<=t.ways∧t.ways<=9223372036854775807)∧t.es.length<=1048576
theorem TlbAt.ok {w:World} {v:Value} {t:TlbM} (h:TlbAt w v t):fy t:=by
 obtain ⟨a,cap,_,_,h1,h2,h3,h4,_⟩:=h;exact ⟨h1,h2,h3,h4⟩
theorem TlbOwn.at {base:Nat} {w:World} {v:Value} {t:TlbM} (h:TlbOwn base w v t) (hk:fy t):TlbAt w v t:=by
 obtain ⟨g,cap,rfl,ho⟩:=h;have hr:=ef ho;rcases ho.2 with ⟨h2,_⟩ | ⟨g',cap',cur,h2,hb,hg,hc1,hc2,_⟩
 ·cases h2
 ·cases h2;exact ⟨some ⟨g,0,none⟩,cap,rfl,hr,hk.1,hk.2.1,hk.2.2.1,hk.2.2.2,hc1,by unfold maxLen at hc2;omega,(by intro h;cases h),(by intro q hq;cases hq;rfl)⟩
end
theorem qF (level va satp pte:Int) (hl:0<=level∧level<=2) (hp:0<=pte∧pte<=18446744073709551615):eU (eH level va satp pte):=by
 have ht:=sf va level (by omega);refine ⟨⟨by simp only [eH];omega,by simp only [eH];omega⟩,⟨ht.1,?_⟩,?_,hp⟩
 ·simp only [eH];omega
 ·simp only [eH,aM];omega
theorem tA {t:TlbM} {e:EntM} (pick:Int) (ht:fy t) (he:eU e):fy (dg t e pick):=by
 obtain ⟨l1,l2,l3⟩:=eX t e pick;obtain ⟨h1,h2,h3,h4⟩:=ht;refine ⟨?_,by rw [l2];exact h2,by rw [l3];exact h3,by rw [l1];exact h4⟩;unfold dg;split
 ·intro x hx;simp only at hx;rcases List.mem_or_eq_of_mem_set hx with hx | rfl
  ·exact h1 x hx
  ·exact he
 ·exact h1
theorem ul (va satp pick:Int):∀(rs:List dQ) (p:TlbM),fy p->(∀x∈rs,(0<=x.1∧x.1<=2)∧0<=x.2.2∧x.2.2<=18446744073709551615)->fy (cG va satp pick rs p)
 | [],p,h,_=>h
 | r::rs,p,h,hx=>by
  rw [cG];refine ul va satp pick rs _ ?_ fun x hx'=>hx x (List.mem_cons_of_mem _ hx');have hr:=hx r (List.mem_cons_self ..);split
  ·exact tA pick h (qF _ _ _ _ hr.1 hr.2)
  ·exact h
theorem zn (va satp pick:Int) (rs:List dQ) (p:TlbM) (j:Nat) (x:dQ) (hx:rs[j]?=some x):
 cG va satp pick (rs.take (j+1)) p=if bC x.2.2 x.1=1 then dg (cG va satp pick (rs.take j) p) (eH x.1 va satp x.2.2) pick else cG va satp pick (rs.take j) p:=by
 have:rs.take (j+1)=rs.take j++[x]:=by
  rw [List.take_add_one,hx];rfl
 rw [this,jg];rfl
end Go.Proofs.YtpdddbobhndbjaaGreat
