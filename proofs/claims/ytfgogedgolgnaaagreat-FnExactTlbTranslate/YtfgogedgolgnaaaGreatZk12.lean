import Derived.Test.YtfgogedgolgnaaaGreatZk11
import Derived.Test.YtfgogedgolgnaaaGreatZk07
namespace Go.Proofs.YtfgogedgolgnaaaGreat
open Go.RowKit
set_option linter.unusedVariables false
set_option maxHeartbeats 6400000
set_option maxRecDepth 20000
def gK (acc:List bF) (r:Int × Int × Int × List bF):Int × Int × Int × List bF:=(r.1,r.2.1,r.2.2.1,acc++r.2.2.2)
theorem hY (zs:List Int) (va:Int) (k:Nat) (n:Int) (h:bw zs.length (64*n+8*bo va k) 8=false):bb zs va k n=(3,(k:Int),0,[]):=by
 unfold bb;rw [if_pos h]
theorem ia (zs:List Int) (va:Int) (k:Nat) (n:Int) (h:bw zs.length (64*n+8*bo va k) 8=true) (hk:aH (rdV zs (64*n+8*bo va k) 8) k=0):bb zs va k n=(2,(k:Int),0,[]):=by
 unfold bb;rw [if_neg (by rw [h];simp),if_pos hk]
theorem fV (zs:List Int) (va:Int) (k:Nat) (n:Int) (h:bw zs.length (64*n+8*bo va k) 8=true) (hk:aH (rdV zs (64*n+8*bo va k) 8) k=2):bb zs va k n=(1,(k:Int),rdV zs (64*n+8*bo va k) 8,[((k:Int),64*n+8*bo va k,rdV zs (64*n+8*bo va k) 8)]):=by
 unfold bb;rw [if_neg (by rw [h];simp),if_neg (by rw [hk];decide),if_pos hk]
theorem fW (zs:List Int) (va:Int) (k:Nat) (n:Int) (h:bw zs.length (64*n+8*bo va ((k+1:Nat):Int)) 8=true) (hk:aH (rdV zs (64*n+8*bo va ((k+1:Nat):Int)) 8) ((k+1:Nat):Int)=1):
 bb zs va (k+1) n=gK [(((k+1:Nat):Int),64*n+8*bo va ((k+1:Nat):Int),rdV zs (64*n+8*bo va ((k+1:Nat):Int)) 8)] (bb zs va k (bj (rdV zs (64*n+8*bo va ((k+1:Nat):Int)) 8))):=by
 rw [bb,if_neg (by rw [h];simp),if_neg (by rw [hk];decide),if_neg (by rw [hk];decide)];rfl
theorem kR (a b:List bF) (r:Int × Int × Int × List bF):gK a (gK b r)=gK (a++b) r:=by
 simp [gK]
def iH (base:Nat) (w':World) (e:Ending) (r:Int × Int × Int × List bF):Prop:=
 ∃ra rc,e=.returned (.tuple #[.agg #[.int .i64 r.2.1,.int .u64 r.2.2.1,.slice ra r.2.2.2.length rc],bv r.1])∧w'.ownsRow base 71 3 (.slice ra r.2.2.2.length rc) r.2.2.2.length (aP r.2.2.2)
def kj (w:World) (p:Nat):Nat:=match w.cell? ⟨p,0,none⟩ with
 | some v=>(intOf v).toNat
 | none=>0
theorem fX (a:Option Addr) (len cap:Nat) (w:World):(method 300 94 (.slice a len cap) "loop.example/s0051/impl.entryAt").run Tryz.prog w=.ok (135,.slice a len cap) w:=by kernel_rfl
def SrcAt (w:World) (sv:Value) (zs:List Int):Prop:=
 ∃d x a len cap,sv=.iface d x∧(∀u,Below w.heap.size w u->(method 300 d x "loop.example/s0051/impl.entryAt").run Tryz.prog u=.ok (135,.slice a len cap) u)∧Byt w a len zs∧len<=1048576
theorem SrcAt.keep {w w':World} {sv:Value} {zs:List Int} (h:SrcAt w sv zs) (hb:Below w.heap.size w w'):SrcAt w' sv zs:=by
 obtain ⟨d,x,a,len,cap,rfl,hm,hB,hl⟩:=h;exact ⟨d,x,a,len,cap,rfl,fun u hu=>hm u (Below.step hb hu (Nat.le_refl _)),hB.keep hb,hl⟩
theorem SrcAt.bd {w:World} {sv:Value} {zs:List Int} (h:SrcAt w sv zs):∀i:Nat,0<=zs[i]?.getD 0∧zs[i]?.getD 0<=255:=by
 obtain ⟨d,x,a,len,cap,rfl,hm,hB,hl⟩:=h;exact hB.2.1
theorem lH {w:World} {a:Option Addr} {len:Nat} {zs:List Int} (cap:Nat) (hB:Byt w a len zs) (hlen:len<=1048576):SrcAt w (.iface 94 (.slice a len cap)) zs:=
 ⟨_,_,a,len,cap,rfl,fun u _=>fX a len cap u,hB,hlen⟩
theorem dH:∀a b:List bF,aP (a++b)=aP a++aP b
 | [],b=>rfl
 | r::a,b=>by simp [aP,dH a b]
theorem eT (sv:Value) (zs:List Int) (va n:Int) (l:Nat) (w:World) (hB:SrcAt w sv zs) (hl:l<=2) (hv0:0<=va) (hv1:va<=18446744073709551615) (hn0:0<=n) (hn1:n<17592186044416):
 Calls Tryz.prog 104 #[sv,.int .u64 n,.int .i64 l,.int .u64 va] w fun e w'=>iH w.heap.size w' e (bb zs va l n)∧Below w.heap.size w w':=by
 obtain ⟨dT,xS,a,len,cap,rfl,hm,hB,hlen⟩:=hB;have hz:=hB.1;have hzb:=hB.2.1;have HB:Hid (Byt w a len zs):=hB;have HMt:Hid _:=hm;obtain ⟨X,hX⟩:∃X,bb zs va l n=X:=⟨_,rfl⟩;have HX:Hid (X=gK [] (bb zs va l n)):=by show _=_;rw [<-hX];rfl
 rw [hX];clear hX hB hm;have s0:Hid (((w.alloc (Obj.cells #[.int .i64 0,.int .u64 0,.slice none 0 0] 158)).alloc (Obj.cells #[.int .i64 l,.int .u64 0,.slice none 0 0] 158)).heap[w.heap.size+1]?=some (.cells #[.int .i64 l,.int .u64 0,.slice none 0 0] 158 (0,0))):=by
  have:=heap_alloc_new (w.alloc (Obj.cells #[.int .i64 0,.int .u64 0,.slice none 0 0] 158)) (Obj.cells #[.int .i64 l,.int .u64 0,.slice none 0 0] 158);simp only [World.size_alloc] at this;exact this
 have r0:Hid (((w.alloc (Obj.cells #[.int .i64 0,.int .u64 0,.slice none 0 0] 158)).alloc (Obj.cells #[.int .i64 l,.int .u64 0,.slice none 0 0] 158)).heap[w.heap.size]?=some (.cells #[.int .i64 0,.int .u64 0,.slice none 0 0] 158 (0,0))):=by
  show _=_;rw [heap_alloc_old _ _ (by simp)];exact heap_alloc_new w _
 have b0:Below w.heap.size w ((w.alloc (Obj.cells #[.int .i64 0,.int .u64 0,.slice none 0 0] 158)).alloc (Obj.cells #[.int .i64 l,.int .u64 0,.slice none 0 0] 158)):=((Below.refl w.heap.size w).alloc (Nat.le_refl _) _).alloc (by simp) _;go_enter Tryz.func104,Tryz.ntmps104;go_wp2_with fail;go_loopw [1] (fun tt wr=>∃(k:Nat) (n':Int) (ra:Option Addr) (rc:Nat) (acc:List bF),k<=l∧tt=.int .u64 n'∧0<=n'∧n'<17592186044416∧acc.length+k<=2∧wr.heap[w.heap.size+1]?=some (.cells #[.int .i64 k,.int .u64 0,.slice ra acc.length rc] 158 (0,0))∧
  wr.heap[w.heap.size]?=some (.cells #[.int .i64 0,.int .u64 0,.slice none 0 0] 158 (0,0))∧wr.ownsRow (w.heap.size+2) 71 3 (.slice ra acc.length rc) acc.length (aP acc)∧Hid (X=gK acc (bb zs va k n'))∧Below w.heap.size w wr) (fun _ wr=>kj wr (w.heap.size+1))
 case atStart=>exact ⟨l,n,none,0,[],Nat.le_refl _,rfl,hn0,hn1,by simpa using hl,s0.out,r0.out,World.ownsRow_nil _ _ _ _,HX,b0⟩
 case round=>
  clear s0 r0 b0 HX hn0 hn1;obtain ⟨k,n',ra,rc,acc,hk,rfl,hn0,hn1,hac,hS,hR,hO,HX,hb⟩:=hrel;have HS:Hid (wr.heap[w.heap.size+1]?=some (.cells #[.int .i64 k,.int .u64 0,.slice ra acc.length rc] 158 (0,0))):=hS;have HR:Hid (wr.heap[w.heap.size]?=some (.cells #[.int .i64 0,.int .u64 0,.slice none 0 0] 158 (0,0))):=hR;have HO:Hid (wr.ownsRow (w.heap.size+2) 71 3 (.slice ra acc.length rc) acc.length (aP acc)):=hO;have hlt:w.heap.size+1<wr.heap.size:=(Array.getElem?_eq_some_iff.1 hS).1;have HM:Hid (kj wr (w.heap.size+1)=k):=by
   show _=_;rw [kj,(ai hS).1.1];rfl
  obtain ⟨⟨c0,c1,c2⟩,e0,e1,e2⟩:=ai hS;clear hS hR hO;obtain ⟨ix,hix⟩:∃ix,bo va (k:Int)=ix:=⟨_,rfl⟩;have hib:=fH va (k:Int);rw [hix] at hib;obtain ⟨rv,hrv⟩:∃rv,rdV zs (64*n'+8*ix) 8=rv:=⟨_,rfl⟩;have hrb:=fn zs (64*n'+8*ix) 8 (by omega) hzb;rw [hrv] at hrb;have HI:Hid (bo va (k:Int)=ix):=hix;have HV:Hid (rdV zs (64*n'+8*ix) 8=rv):=hrv;clear hix hrv;go_wp2_with fail;refine (iP n' k va wr hv0 hv1 (by omega) hn0 hn1).mono ?_;rintro e w' ⟨rfl,nq,rfl⟩;rw [HI.out];have HS1:Hid ((wr.drewN nq).heap[w.heap.size+1]?=some (.cells #[.int .i64 k,.int .u64 0,.slice ra acc.length rc] 158 (0,0))):=HS;have HR1:Hid ((wr.drewN nq).heap[w.heap.size]?=some (.cells #[.int .i64 0,.int .u64 0,.slice none 0 0] 158 (0,0))):=HR;have HO1:Hid ((wr.drewN nq).ownsRow (w.heap.size+2) 71 3 (.slice ra acc.length rc) acc.length (aP acc)):=HO;have hlt1:w.heap.size+1<(wr.drewN nq).heap.size:=hlt;have hb1:Below w.heap.size w (wr.drewN nq):=below_drewN hb nq;generalize wr.drewN nq=v1 at HS1 HR1 HO1 hlt1 hb1 |-;clear c0 c1 c2 e0 e1 e2 HS HR HO hlt hb;obtain ⟨⟨c0,c1,c2⟩,e0,e1,e2⟩:=ai HS1.out;obtain ⟨⟨d0,d1,d2⟩,f0,f1,f2⟩:=ai HR1.out;have hm:=HMt.out v1 hb1;cases hg:bw len (64*n'+8*ix) 8
  ·have HG:Hid (bw len (64*n'+8*ix) 8=false):=hg;clear hg;go_wp2_with fail;refine (jw a len cap (64*n'+8*ix) v1 hlen (by omega) (by omega) HG.out).mono ?_;rintro e w' ⟨rfl,rfl⟩;go_wp2_with fail;have hX:X=(3,(k:Int),0,acc):=by
    rw [HX.out,hY zs va k n' (by rw [hz,HI.out];exact HG.out)];simp [gK]
   refine bodyPost_ret (v:=.tuple #[.agg #[.int .i64 k,.int .u64 0,.slice ra acc.length rc],.iface 139 (.agg #[])]) (by simp [results,Tryz.results104,go_sem,d0,d1,d2]) rfl ?_;rw [hX];exact ⟨⟨ra,rc,rfl,ax (bg HO1.out (gb3 _ w.heap.size _ _ _) (by omega)) (by omega)⟩,cA hb1 (Nat.le_refl _) _ _ _⟩
  ·have HG:Hid (bw len (64*n'+8*ix) 8=true):=hg;clear hg;go_wp2_with fail;refine (jZ a len cap zs (64*n'+8*ix) v1 (HB.out.keep hb1) hlen (by omega) (by omega) HG.out).mono ?_;rintro e w' ⟨rfl,rfl⟩;rw [HV.out];rcases eg rv (k:Int) with hkd | hkd | hkd
   ·have HK:Hid (aH rv (k:Int)=0):=hkd;clear hkd;go_wp2_with fail;refine (eS rv k _ hrb.1 hrb.2).mono ?_;rintro e w' ⟨rfl,rfl⟩;rw [HK.out];go_wp2_with fail;have hX:X=(2,(k:Int),0,acc):=by
     rw [HX.out,ia zs va k n' (by rw [hz,HI.out];exact HG.out) (by rw [HI.out,HV.out];exact HK.out)];simp [gK]
    refine bodyPost_ret (v:=.tuple #[.agg #[.int .i64 k,.int .u64 0,.slice ra acc.length rc],.iface 128 (.agg #[])]) (by simp [results,Tryz.results104,go_sem,d0,d1,d2]) rfl ?_;rw [hX];exact ⟨⟨ra,rc,rfl,ax (bg HO1.out (gb3 _ w.heap.size _ _ _) (by omega)) (by omega)⟩,cA hb1 (Nat.le_refl _) _ _ _⟩
   ·have HK:Hid (aH rv (k:Int)=1):=hkd;clear hkd;go_wp2_with fail;refine (eS rv k _ hrb.1 hrb.2).mono ?_;rintro e v3 ⟨rfl,rfl⟩;rw [HK.out];have n4:=(Below.refl v3.heap.size v3).alloc (Nat.le_refl _) (Obj.cells #[.int .i64 k,.int .u64 (64*n'+8*ix),.int .u64 rv] 71);have HS4:Hid ((v3.alloc (Obj.cells #[.int .i64 k,.int .u64 (64*n'+8*ix),.int .u64 rv] 71)).heap[w.heap.size+1]?=some (.cells #[.int .i64 k,.int .u64 0,.slice ra acc.length rc] 158 (0,0))):=aC HS1.out n4 hlt1;have HR4:Hid ((v3.alloc (Obj.cells #[.int .i64 k,.int .u64 (64*n'+8*ix),.int .u64 rv] 71)).heap[w.heap.size]?=some (.cells #[.int .i64 0,.int .u64 0,.slice none 0 0] 158 (0,0))):=aC HR1.out n4 (by omega);have HO4:Hid ((v3.alloc (Obj.cells #[.int .i64 k,.int .u64 (64*n'+8*ix),.int .u64 rv] 71)).ownsRow (w.heap.size+2) 71 3 (.slice ra acc.length rc) acc.length (aP acc)):=ae HO1.out n4;have HW4:Hid (RowC (v3.alloc (Obj.cells #[.int .i64 k,.int .u64 (64*n'+8*ix),.int .u64 rv] 71)) (some ⟨v3.heap.size,0,none⟩) 1 3 (aP [((k:Int),64*n'+8*ix,rv)])):=(OwnC.new 71 3 v3 (aP [((k:Int),64*n'+8*ix,rv)]) 1 (by rfl) (by decide)).row;have l4:v3.heap.size<(v3.alloc (Obj.cells #[.int .i64 k,.int .u64 (64*n'+8*ix),.int .u64 rv] 71)).heap.size:=by simp
    have b4:Below w.heap.size w (v3.alloc (Obj.cells #[.int .i64 k,.int .u64 (64*n'+8*ix),.int .u64 rv] 71)):=hb1.alloc (by omega) _;go_wp2_with (at_builtin;refine jp _ rfl (.tmp 43) (.tmp 49) 64 rfl 71 Tryz.underlying64 (.agg #[.int .i64 0,.int .u64 0,.int .u64 0]) 3 24 Tryz.infoRec rfl (by decide) (w.heap.size+2) acc.length _ (aP acc) rfl HO4.out v3.heap.size 0 1 1 (aP [((k:Int),64*n'+8*ix,rv)]) rfl (by omega) HW4.out (ef _) (by omega) (by omega) (by omega) (w.heap.size+2) _ (Below.refl _ _) (Nat.le_refl _) ?_;intro g5 cp5 v5 o5 n5;have HO5:Hid (v5.ownsRow (w.heap.size+2) 71 3 (.slice (some ⟨g5,0,none⟩) (acc.length+1) cp5) (acc.length+1) (aP acc++aP [((k:Int),64*n'+8*ix,rv)])):=o5;have HS5:Hid (v5.heap[w.heap.size+1]?=some (.cells #[.int .i64 k,.int .u64 0,.slice ra acc.length rc] 158 (0,0))):=(n5.block _ (by omega)).trans HS4.out;have HR5:Hid (v5.heap[w.heap.size]?=some (.cells #[.int .i64 0,.int .u64 0,.slice none 0 0] 158 (0,0))):=(n5.block _ (by omega)).trans HR4.out;have b5:Below w.heap.size w v5:=b4.trans (n5.mono (by omega));have l5:=n5.size;clear c0 c1 c2 e0 e1 e2 d0 d1 d2 f0 f1 f2 o5;obtain ⟨⟨c0,c1,c2⟩,e0,e1,e2⟩:=ai HS5.out;obtain ⟨⟨d0,d1,d2⟩,f0,f1,f2⟩:=ai HR5.out;clear n5 n4 HS4 HR4 HO4 HW4 b4 HS1 HR1 HO1);have HS6:Hid ((v5.setCell ⟨w.heap.size+1,2,none⟩ (.slice (some ⟨g5,0,none⟩) (acc.length+1) cp5)).heap[w.heap.size+1]?=some (.cells #[.int .i64 k,.int .u64 0,.slice (some ⟨g5,0,none⟩) (acc.length+1) cp5] 158 (0,0))):=mE HS5.out;have m6:=aj (aO v5 (some (w.heap.size+1))) 2 (.slice (some ⟨g5,0,none⟩) (acc.length+1) cp5);have HR6:Hid ((v5.setCell ⟨w.heap.size+1,2,none⟩ (.slice (some ⟨g5,0,none⟩) (acc.length+1) cp5)).heap[w.heap.size]?=some (.cells #[.int .i64 0,.int .u64 0,.slice none 0 0] 158 (0,0))):=aV HR5.out m6 (by omega);have HO6:Hid ((v5.setCell ⟨w.heap.size+1,2,none⟩ (.slice (some ⟨g5,0,none⟩) (acc.length+1) cp5)).ownsRow (w.heap.size+2) 71 3 (.slice (some ⟨g5,0,none⟩) (acc.length+1) cp5) (acc.length+1) (aP acc++aP [((k:Int),64*n'+8*ix,rv)])):=bg HO5.out m6 (by omega);have b6:=b5.setCell (p:=⟨w.heap.size+1,2,none⟩) (by show w.heap.size<=w.heap.size+1;omega) (.slice (some ⟨g5,0,none⟩) (acc.length+1) cp5);refine (iC rv _ hrb.1 hrb.2).mono ?_;rintro e w' ⟨rfl,rfl⟩;generalize v5.setCell ⟨w.heap.size+1,2,none⟩ (.slice (some ⟨g5,0,none⟩) (acc.length+1) cp5)=v6 at HS6 HR6 HO6 b6 |-;clear c0 c1 c2 e0 e1 e2 d0 d1 d2 f0 f1 f2 m6 HS5 HR5 HO5 b5;obtain ⟨⟨c0,c1,c2⟩,e0,e1,e2⟩:=ai HS6.out;have hpb:=eR rv;obtain ⟨pp,hpp⟩:∃pp,bj rv=pp:=⟨_,rfl⟩;have HP:Hid (bj rv=pp):=hpp;rw [hpp] at hpb |-;clear hpp;obtain ⟨k',rfl⟩:∃k',k=k'+1:=by
     cases k with
     | zero=>exact absurd HK.out (da _)
     | succ k'=>exact ⟨k',rfl⟩
    go_wp2_with fail;go_roundw
    case rel=>
     refine ⟨k',pp,some ⟨g5,0,none⟩,cp5,acc++[(((k'+1:Nat):Int),64*n'+8*ix,rv)],by omega,rfl,hpb.1,hpb.2,by simp;omega,?_,?_,?_,?_,?_⟩
     ·rw [show (acc++[(((k'+1:Nat):Int),64*n'+8*ix,rv)]).length=acc.length+1 by simp,show ((k':Nat):Int)=((k'+1:Nat):Int)-1 by omega];exact mg HS6.out
     ·exact aV HR6.out (aj (aO v6 (some (w.heap.size+1))) 0 _) (by omega)
     ·rw [show (acc++[(((k'+1:Nat):Int),64*n'+8*ix,rv)]).length=acc.length+1 by simp,dH];exact bg HO6.out (aj (aO v6 (some (w.heap.size+1))) 0 _) (by omega)
     ·show _=_;rw [HX.out,fW zs va k' n' (by rw [hz,HI.out];exact HG.out) (by rw [HI.out,HV.out];exact HK.out),kR,HI.out,HV.out,HP.out]
     ·exact b6.setCell (p:=⟨w.heap.size+1,0,none⟩) (by show w.heap.size<=w.heap.size+1;omega) _
    case measure=>
     rw [HM.out,kj,(ai (mg HS6.out)).1.1];simp [intOf]
   ·have HK:Hid (aH rv (k:Int)=2):=hkd;clear hkd;go_wp2_with fail;refine (eS rv k _ hrb.1 hrb.2).mono ?_;rintro e v3 ⟨rfl,rfl⟩;rw [HK.out];have n4:=(Below.refl v3.heap.size v3).alloc (Nat.le_refl _) (Obj.cells #[.int .i64 k,.int .u64 (64*n'+8*ix),.int .u64 rv] 71);have HS4:Hid ((v3.alloc (Obj.cells #[.int .i64 k,.int .u64 (64*n'+8*ix),.int .u64 rv] 71)).heap[w.heap.size+1]?=some (.cells #[.int .i64 k,.int .u64 0,.slice ra acc.length rc] 158 (0,0))):=aC HS1.out n4 hlt1;have HR4:Hid ((v3.alloc (Obj.cells #[.int .i64 k,.int .u64 (64*n'+8*ix),.int .u64 rv] 71)).heap[w.heap.size]?=some (.cells #[.int .i64 0,.int .u64 0,.slice none 0 0] 158 (0,0))):=aC HR1.out n4 (by omega);have HO4:Hid ((v3.alloc (Obj.cells #[.int .i64 k,.int .u64 (64*n'+8*ix),.int .u64 rv] 71)).ownsRow (w.heap.size+2) 71 3 (.slice ra acc.length rc) acc.length (aP acc)):=ae HO1.out n4;have HW4:Hid (RowC (v3.alloc (Obj.cells #[.int .i64 k,.int .u64 (64*n'+8*ix),.int .u64 rv] 71)) (some ⟨v3.heap.size,0,none⟩) 1 3 (aP [((k:Int),64*n'+8*ix,rv)])):=(OwnC.new 71 3 v3 (aP [((k:Int),64*n'+8*ix,rv)]) 1 (by rfl) (by decide)).row;have l4:v3.heap.size<(v3.alloc (Obj.cells #[.int .i64 k,.int .u64 (64*n'+8*ix),.int .u64 rv] 71)).heap.size:=by simp
    have b4:Below w.heap.size w (v3.alloc (Obj.cells #[.int .i64 k,.int .u64 (64*n'+8*ix),.int .u64 rv] 71)):=hb1.alloc (by omega) _;go_wp2_with (at_builtin;refine jp _ rfl (.tmp 43) (.tmp 49) 64 rfl 71 Tryz.underlying64 (.agg #[.int .i64 0,.int .u64 0,.int .u64 0]) 3 24 Tryz.infoRec rfl (by decide) (w.heap.size+2) acc.length _ (aP acc) rfl HO4.out v3.heap.size 0 1 1 (aP [((k:Int),64*n'+8*ix,rv)]) rfl (by omega) HW4.out (ef _) (by omega) (by omega) (by omega) (w.heap.size+2) _ (Below.refl _ _) (Nat.le_refl _) ?_;intro g5 cp5 v5 o5 n5;have HO5:Hid (v5.ownsRow (w.heap.size+2) 71 3 (.slice (some ⟨g5,0,none⟩) (acc.length+1) cp5) (acc.length+1) (aP acc++aP [((k:Int),64*n'+8*ix,rv)])):=o5;have HS5:Hid (v5.heap[w.heap.size+1]?=some (.cells #[.int .i64 k,.int .u64 0,.slice ra acc.length rc] 158 (0,0))):=(n5.block _ (by omega)).trans HS4.out;have HR5:Hid (v5.heap[w.heap.size]?=some (.cells #[.int .i64 0,.int .u64 0,.slice none 0 0] 158 (0,0))):=(n5.block _ (by omega)).trans HR4.out;have b5:Below w.heap.size w v5:=b4.trans (n5.mono (by omega));have l5:=n5.size;clear c0 c1 c2 e0 e1 e2 d0 d1 d2 f0 f1 f2 o5;obtain ⟨⟨c0,c1,c2⟩,e0,e1,e2⟩:=ai HS5.out;obtain ⟨⟨d0,d1,d2⟩,f0,f1,f2⟩:=ai HR5.out;clear n5 n4 HS4 HR4 HO4 HW4 b4 HS1 HR1 HO1);have hX:X=(1,(k:Int),rv,acc++[((k:Int),64*n'+8*ix,rv)]):=by
     rw [HX.out,fV zs va k n' (by rw [hz,HI.out];exact HG.out) (by rw [HI.out,HV.out];exact HK.out),HI.out,HV.out];rfl
    refine bodyPost_ret (v:=.tuple #[.agg #[.int .i64 k,.int .u64 rv,.slice (some ⟨g5,0,none⟩) (acc.length+1) cp5],.nilIface]) (by simp [results,Tryz.results104,go_sem,d0,d1,d2]) rfl ?_;rw [hX];refine ⟨⟨some ⟨g5,0,none⟩,cp5,?_,?_⟩,cA ((b5.setCell (p:=⟨w.heap.size+1,2,none⟩) (by show w.heap.size<=w.heap.size+1;omega) _).setCell (p:=⟨w.heap.size+1,1,none⟩) (by show w.heap.size<=w.heap.size+1;omega) _) (Nat.le_refl _) _ _ _⟩
    ·simp [bv]
    ·rw [show (acc++[((k:Int),64*n'+8*ix,rv)]).length=acc.length+1 by simp,dH];exact ax (bg (bg HO5.out (aj (aj (aO v5 (some (w.heap.size+1))) 2 _) 1 _) (by omega)) (gb3 _ w.heap.size _ _ _) (by omega)) (by omega)
theorem dX (va l:Int) (hl:l=0∨l=1∨l=2):0<=bP va l∧bP va l<=511:=by
 rcases hl with rfl | rfl | rfl <;> simp only [bP] <;> (try simp) <;> omega
theorem lJ {t:TlbM} {p:Bool} {va asid l:Int} {q:Nat} {x:EntM} (hv:aA t p=true) (hx:t.es[q]?=some x) (hh:ci va asid l x=true):(q:Int)/t.ways=bP va l%t.sets:=by
 have hp:=eX hv q x hx;simp only [ci,dv,Bool.and_eq_true,beq_iff_eq] at hh;obtain ⟨h1,⟨h2,h3⟩,_⟩:=hh;simp only [aB,Bool.or_eq_true,Bool.and_eq_true,beq_iff_eq] at hp;rcases hp with hp | hp
 ·rw [h2] at hp;simp at hp
 ·rw [<-hp.2,h3,h1]
theorem gc {t:TlbM} {p:Bool} (hv:aA t p=true):(t.sets=1∨t.sets=2∨t.sets=4∨t.sets=8)∧1<=t.ways∧t.ways<=4∧(t.es.length:Int)=t.sets*t.ways:=cP hv
theorem iM {t:TlbM} {p:Bool} {va asid l:Int} {q f:Nat} {x:EntM} (hv:aA t p=true) (hx:t.es[q]?=some x) (hf:(f:Int)=bP va l%t.sets*t.ways) (hq:q<f∨(f:Int)+t.ways<=q):ci va asid l x=false:=by
 cases hh:ci va asid l x
 ·rfl
 ·exfalso;have h1:=lJ hv hx hh;obtain ⟨_,w1,w4,_⟩:=gc hv;rw [<-h1] at hf;rcases (show t.ways=1∨t.ways=2∨t.ways=3∨t.ways=4 by omega) with hw | hw | hw | hw <;> rw [hw] at hf hq <;> omega
theorem ic {t:TlbM} {p:Bool} {va asid l:Int} {f:Nat} (hv:aA t p=true) (hf:(f:Int)=bP va l%t.sets*t.ways)
 (h:∀(j:Nat) x,(j:Int)<t.ways->t.es[f+j]?=some x->ci va asid l x=false):bh va asid l 0 t.es=none:=by
 refine ey va asid l t.es 0 (fun j x hx=>?_);by_cases h1:j<f
 ·exact iM hv hx hf (.inl h1)
 ·by_cases h2:(f:Int)+t.ways<=j
  ·exact iM hv hx hf (.inr h2)
  ·exact h (j-f) x (by omega) (by rw [show f+(j-f)=j by omega];exact hx)
theorem ie {t:TlbM} {p:Bool} {va asid l:Int} {f k:Nat} {x:EntM} (hv:aA t p=true) (hf:(f:Int)=bP va l%t.sets*t.ways) (hx:t.es[f+k]?=some x) (hh:ci va asid l x=true)
 (h:∀(j:Nat) y,j<k->t.es[f+j]?=some y->ci va asid l y=false):bh va asid l 0 t.es=some (f+k,x):=by
 have:=ez va asid l t.es 0 (f+k) x hx hh (fun j y hj hy=>by
  by_cases h1:j<f
  ·exact iM hv hy hf (.inl h1)
  ·exact h (j-f) y (by omega) (by rw [show f+(j-f)=j by omega];exact hy))
 rw [Nat.zero_add] at this;exact this
theorem ig (va asid l:Int):∀(es:List EntM) (i k:Nat) (x:EntM),bh va asid l i es=some (k,x)->∃j,k=i+j∧es[j]?=some x∧ci va asid l x=true
 | [],i,k,x,h=>by cases h
 | e::r,i,k,x,h=>by
  rw [bh] at h;split at h
  ·rename_i hh;cases h;exact ⟨0,rfl,rfl,hh⟩
  ·obtain ⟨j,rfl,h2,h3⟩:=ig va asid l r (i+1) k x h;exact ⟨j+1,by omega,by simpa using h2,h3⟩
theorem el (t:TlbM) (va asid:Int) (h:(aD t va asid).1=true):∃(k:Nat) (x:EntM),t.es[k]?=some x∧(aD t va asid).2.1=(k:Int)∧(aD t va asid).2.2.1=x.level∧(aD t va asid).2.2.2=x.pte∧dv x va asid=true∧x.valid=true:=by
 have key:∀(l:Int) (k:Nat) (x:EntM),bh va asid l 0 t.es=some (k,x)->t.es[k]?=some x∧l=x.level∧dv x va asid=true∧x.valid=true:=by
  intro l k x hf;obtain ⟨j,rfl,h2,h3⟩:=ig va asid l t.es 0 k x hf;simp only [ci,Bool.and_eq_true,beq_iff_eq] at h3;have hv:x.valid=true:=by
   have:=h3.2;simp only [dv,Bool.and_eq_true] at this;exact this.1.1
  exact ⟨by rw [Nat.zero_add];exact h2,h3.1.symm,h3.2,hv⟩
 unfold aD at h |-;split at h
 ·cases h
 ·rename_i he;rw [if_neg he];cases h0:bh va asid 0 0 t.es with
  | some y=>
   obtain ⟨k,x⟩:=y;obtain ⟨a1,a2,a3,a4⟩:=key 0 k x h0;exact ⟨k,x,a1,by simp [cK],by simp [cK,<-a2],by simp [cK],a3,a4⟩
  | none=>
   cases h1:bh va asid 1 0 t.es with
   | some y=>
    obtain ⟨k,x⟩:=y;obtain ⟨a1,a2,a3,a4⟩:=key 1 k x h1;exact ⟨k,x,a1,by simp [cK],by simp [cK,<-a2],by simp [cK],a3,a4⟩
   | none=>
    cases h2:bh va asid 2 0 t.es with
    | some y=>
     obtain ⟨k,x⟩:=y;obtain ⟨a1,a2,a3,a4⟩:=key 2 k x h2;exact ⟨k,x,a1,by simp [cK],by simp [cK,<-a2],by simp [cK],a3,a4⟩
    | none=>
     rw [h0,h1,h2] at h;simp [cK] at h
theorem jq {t:TlbM} {va asid i l pt:Int} (h:aD t va asid=(false,i,l,pt)):(i,l,pt)=(0,0,0):=by
 unfold aD at h;split at h
 ·cases h;rfl
 ·cases h0:bh va asid 0 0 t.es with
  | some y=>simp [h0,cK] at h
  | none=>
   cases h1:bh va asid 1 0 t.es with
   | some y=>simp [h0,h1,cK] at h
   | none=>
    cases h2:bh va asid 2 0 t.es with
    | some y=>simp [h0,h1,h2,cK] at h
    | none=>
     simp [h0,h1,h2,cK] at h;obtain ⟨rfl,rfl,rfl⟩:=h;rfl
def fw (r:Int × Int × Int × List bF) (k:Nat) (ps:List bF):Prop:=
 (∀p∈ps,aH p.2.2 p.1=1∧0<=p.1∧p.1<=k∧0<=p.2.2∧p.2.2<=18446744073709551615)∧
 ((r.1=1∧(∃ad,r.2.2.2=ps++[(r.2.1,ad,r.2.2.1)])∧aH r.2.2.1 r.2.1=2∧0<=r.2.1∧r.2.1<=k∧0<=r.2.2.1∧r.2.2.1<=18446744073709551615)∨((r.1=2∨r.1=3)∧r.2.2.2=ps∧r.2.2.1=0))
theorem jO (level:Int):aH 0 level≠2:=by
 unfold aH;split
 ·decide
 ·simp [aI];split <;> omega
theorem dR (zs:List Int) (va:Int) (hz:∀i:Nat,0<=zs[i]?.getD 0∧zs[i]?.getD 0<=255):∀(k:Nat) (n:Int),∃ps,fw (bb zs va k n) k ps∧ps.length<=k
 | k,n=>by
  cases hg:bw zs.length (64*n+8*bo va k) 8
  ·rw [hY zs va k n hg];exact ⟨[],⟨by simp,.inr ⟨.inr rfl,rfl,rfl⟩⟩,by simp⟩
  ·have hb:=fn zs (64*n+8*bo va k) 8 (by omega) hz;rcases eg (rdV zs (64*n+8*bo va k) 8) (k:Int) with hk | hk | hk
   ·rw [ia zs va k n hg hk];exact ⟨[],⟨by simp,.inr ⟨.inl rfl,rfl,rfl⟩⟩,by simp⟩
   ·cases k with
    | zero=>exact absurd hk (da _)
    | succ k'=>
     rw [fW zs va k' n hg hk];obtain ⟨ps,⟨h1,h2⟩,h3⟩:=dR zs va hz k' (bj (rdV zs (64*n+8*bo va ((k'+1:Nat):Int)) 8));refine ⟨(((k'+1:Nat):Int),64*n+8*bo va ((k'+1:Nat):Int),rdV zs (64*n+8*bo va ((k'+1:Nat):Int)) 8)::ps,⟨?_,?_⟩,by simp;omega⟩
     ·intro p hp;rcases List.mem_cons.1 hp with rfl | hp
      ·exact ⟨hk,by simp only;omega,by simp only;omega,hb.1,hb.2⟩
      ·obtain ⟨q1,q2,q3,q4⟩:=h1 p hp;exact ⟨q1,q2,by omega,q4⟩
     ·simp only [gK];rcases h2 with ⟨e1,⟨ad,e2⟩,e3,e4,e5,e6⟩ | ⟨e1,e2,e3⟩
      ·exact .inl ⟨e1,⟨ad,by rw [e2];rfl⟩,e3,e4,by omega,e6⟩
      ·exact .inr ⟨e1,by rw [e2];rfl,e3⟩
   ·rw [fV zs va k n hg hk];exact ⟨[],⟨by simp,.inl ⟨rfl,⟨_,rfl⟩,hk,by simp only;omega,Int.le_refl _,hb.1,hb.2⟩⟩,by simp⟩
theorem jd (zs:List Int) (root va:Int) (hz:∀i:Nat,0<=zs[i]?.getD 0∧zs[i]?.getD 0<=255):∃ps,fw (aQ zs root va) 2 ps∧ps.length<=2:=by
 unfold aQ;split
 ·exact ⟨[],⟨by simp,.inr ⟨.inl rfl,rfl,rfl⟩⟩,by simp⟩
 ·exact dR zs va hz 2 _
theorem jP {r:Int × Int × Int × List bF} {k k':Nat} {ps:List bF} (h:fw r k ps) (hk:k<=k'):fw r k' ps:=by
 obtain ⟨h1,h2⟩:=h;refine ⟨fun p hp=>?_,?_⟩
 ·obtain ⟨q1,q2,q3,q4⟩:=h1 p hp;exact ⟨q1,q2,by omega,q4⟩
 ·rcases h2 with ⟨e1,e2,e3,e4,e5,e6⟩ | h2
  ·exact .inl ⟨e1,e2,e3,e4,by omega,e6⟩
  ·exact .inr h2
theorem eu (zs:List Int) (satp va:Int) (t:TlbM) (asid:Int) (ht:aA t true=true) (hz:∀i:Nat,0<=zs[i]?.getD 0∧zs[i]?.getD 0<=255):∃ps,fw (aK zs satp va (aD t va asid)) 2 ps∧ps.length<=2:=by
 unfold aK;split
 ·rename_i hf;obtain ⟨q,x,h1,h2,h3,h4,h5,h6⟩:=el t va asid hf;have hl:=cB (cX ht) q x h1 h6;have hle:((aD t va asid).2.2.1-1).toNat<=2:=by rw [h3];omega
  obtain ⟨ps,a1,a2⟩:=dR zs va hz ((aD t va asid).2.2.1-1).toNat (bj (aD t va asid).2.2.2);exact ⟨ps,jP a1 hle,by omega⟩
 ·exact jd zs satp va hz
theorem dh (va satp pick:Int):∀(a b:List bF) (p:TlbM),aR va satp pick (a++b) p=aR va satp pick b (aR va satp pick a p)
 | [],b,p=>rfl
 | r::a,b,p=>by
  rw [List.cons_append,aR,aR];exact dh va satp pick a b _
theorem bJ (t:TlbM) (e:EntM) (pick:Int):(be t e pick).es.length=t.es.length∧(be t e pick).sets=t.sets∧(be t e pick).ways=t.ways:=by
 unfold be;split
 ·simp
 ·exact ⟨rfl,rfl,rfl⟩
theorem cD (va satp pick:Int):∀(rs:List bF) (p:TlbM),(aR va satp pick rs p).es.length=p.es.length∧(aR va satp pick rs p).sets=p.sets∧(aR va satp pick rs p).ways=p.ways
 | [],p=>⟨rfl,rfl,rfl⟩
 | r::rs,p=>by
  rw [aR];have ih:=cD va satp pick rs (if aH r.2.2 r.1=1 then be p (bB r.1 va satp r.2.2) pick else p);split at ih
  ·rename_i hk;rw [if_pos hk];have h:=bJ p (bB r.1 va satp r.2.2) pick;exact ⟨ih.1.trans h.1,ih.2.1.trans h.2.1,ih.2.2.trans h.2.2⟩
  ·rename_i hk;rw [if_neg hk];exact ih
theorem jQ {r:Int × Int × Int × List bF} {k:Nat} {ps:List bF} (va satp pick:Int) (p:TlbM) (h:fw r k ps):aR va satp pick r.2.2.2 p=aR va satp pick ps p:=by
 rcases h.2 with ⟨_,⟨ad,e⟩,hk,_⟩ | ⟨_,e,_⟩
 ·rw [e,dh];rw [aR,aR,if_neg (by simp only;omega)]
 ·rw [e]
theorem iQ (t:TlbM) (va asid:Int) (he:∀e∈t.es,bf e) (h:(aD t va asid).1=true):(0<=(aD t va asid).2.2.2∧(aD t va asid).2.2.2<=18446744073709551615)∧(-9223372036854775808<=(aD t va asid).2.2.1∧(aD t va asid).2.2.1<=9223372036854775807):=by
 obtain ⟨k,x,hx,_,hl,hp,_⟩:=el t va asid h;have hk:=he x (List.mem_of_getElem? hx);rw [hl,hp];exact ⟨hk.2.2.2,hk.1⟩
theorem fr (zs:List Int) (root va:Int):(aQ zs root va).2.2.2.length<=3:=by
 unfold aQ;split
 ·simp
 ·exact ek zs va 2 _
structure WalkLim (r:Int × Int × Int × List bF):Prop where
 len:r.2.2.2.length<=3
 pte:0<=r.2.2.1∧r.2.2.1<=18446744073709551615
 level:0<=r.2.1∧r.2.1<=2
 recs:∀x∈r.2.2.2,(0<=x.1∧x.1<=2)∧0<=x.2.2∧x.2.2<=18446744073709551615
theorem fZ {r:Int × Int × Int × List bF} {ps:List bF} (h:fw r 2 ps):∀x∈r.2.2.2,(0<=x.1∧x.1<=2)∧0<=x.2.2∧x.2.2<=18446744073709551615:=by
 obtain ⟨h1,h2⟩:=h;intro x hx;rcases h2 with ⟨_,⟨ad,e⟩,_,e4,e5,e6,e7⟩ | ⟨_,e,_⟩
 ·rw [e] at hx;rcases List.mem_append.1 hx with hx | hx
  ·obtain ⟨_,q2,q3,q4,q5⟩:=h1 x hx;exact ⟨⟨q2,by omega⟩,q4,q5⟩
  ·have:x=(r.2.1,ad,r.2.2.1):=by simpa using hx
   subst this;exact ⟨⟨e4,by omega⟩,e6,e7⟩
 ·rw [e] at hx;obtain ⟨_,q2,q3,q4,q5⟩:=h1 x hx;exact ⟨⟨q2,by omega⟩,q4,q5⟩
theorem eV (zs:List Int) (satp va:Int) (t:TlbM) (asid:Int) (ht:aA t true=true) (he:∀e∈t.es,bf e) (hz:∀i:Nat,0<=zs[i]?.getD 0∧zs[i]?.getD 0<=255):
 ((aD t va asid).1=true->∃l:Nat,(aD t va asid).2.2.1=(l:Int)+1∧l<=1∧0<=(aD t va asid).2.2.2∧(aD t va asid).2.2.2<=18446744073709551615∧aK zs satp va (aD t va asid)=bb zs va l (bj (aD t va asid).2.2.2))∧
 ((aD t va asid).1=false->aK zs satp va (aD t va asid)=aQ zs satp va)∧WalkLim (aK zs satp va (aD t va asid)):=by
 obtain ⟨ps,hs,_⟩:=eu zs satp va t asid ht hz;cases hf:(aD t va asid).1
 ·have e:aK zs satp va (aD t va asid)=aQ zs satp va:=by rw [aK,if_neg (by rw [hf];simp)]
  have hb:=kT zs satp va hz;refine ⟨fun h=>(by cases h),fun _=>e,?_⟩;have hr:=fZ hs;rw [e] at hr |-;exact ⟨fr zs satp va,⟨hb.1,hb.2.1⟩,hb.2.2,hr⟩
 ·obtain ⟨q,x,h1,h2,h3,h4,h5,h6⟩:=el t va asid hf;have hl:=cB (cX ht) q x h1 h6;have hpl:=eX ht q x h1;have hlim:=(iQ t va asid he hf).1;have hk1:x.level≠0:=by
   intro h0;have hg:ay x true=true:=by
    simp only [aB,Bool.or_eq_true,Bool.and_eq_true] at hpl;have h7:ay x true=true∧x.tag%t.sets=q/t.ways:=by simpa [h6] using hpl
    exact h7.1
   have:=kG hg;rw [h0] at this;exact da _ this
  have e:aK zs satp va (aD t va asid)=bb zs va ((aD t va asid).2.2.1-1).toNat (bj (aD t va asid).2.2.2):=by rw [aK,if_pos hf]
  have hb:=fY zs va hz ((aD t va asid).2.2.1-1).toNat (bj (aD t va asid).2.2.2) (by rw [h3];omega);refine ⟨fun _=>⟨((aD t va asid).2.2.1-1).toNat,by rw [h3];omega,by rw [h3];omega,hlim.1,hlim.2,e⟩,fun h=>(by cases h),?_⟩;have hr:=fZ hs;have hln:=ek zs va ((aD t va asid).2.2.1-1).toNat (bj (aD t va asid).2.2.2);rw [e] at hr |-;exact ⟨by rw [h3] at hln |-;omega,⟨hb.1,hb.2.1⟩,hb.2.2,hr⟩
theorem eQ (level va satp pte:Int) (hl:0<=level∧level<=2) (hp:0<=pte∧pte<=18446744073709551615):bf (bB level va satp pte):=by
 have ht:=dX va level (by omega);refine ⟨⟨by simp only [bB];omega,by simp only [bB];omega⟩,⟨ht.1,?_⟩,?_,hp⟩
 ·simp only [bB];omega
 ·simp only [bB,au];omega
theorem kz {t:TlbM} {e:EntM} (pick:Int) (ht:cy t) (he:bf e):cy (be t e pick):=by
 obtain ⟨l1,l2,l3⟩:=bJ t e pick;obtain ⟨h1,h2,h3,h4⟩:=ht;refine ⟨?_,by rw [l2];exact h2,by rw [l3];exact h3,by rw [l1];exact h4⟩;unfold be;split
 ·intro x hx;simp only at hx;rcases List.mem_or_eq_of_mem_set hx with hx | rfl
  ·exact h1 x hx
  ·exact he
 ·exact h1
theorem iw (va satp pick:Int):∀(rs:List bF) (p:TlbM),cy p->(∀x∈rs,(0<=x.1∧x.1<=2)∧0<=x.2.2∧x.2.2<=18446744073709551615)->cy (aR va satp pick rs p)
 | [],p,h,_=>h
 | r::rs,p,h,hx=>by
  rw [aR];refine iw va satp pick rs _ ?_ fun x hx'=>hx x (List.mem_cons_of_mem _ hx');have hr:=hx r (List.mem_cons_self ..);split
  ·exact kz pick h (eQ _ _ _ _ hr.1 hr.2)
  ·exact h
theorem hI (va satp pick:Int) (rs:List bF) (p:TlbM) (j:Nat) (x:bF) (hx:rs[j]?=some x):
 aR va satp pick (rs.take (j+1)) p=if aH x.2.2 x.1=1 then be (aR va satp pick (rs.take j) p) (bB x.1 va satp x.2.2) pick else aR va satp pick (rs.take j) p:=by
 have:rs.take (j+1)=rs.take j++[x]:=by
  rw [List.take_add_one,hx];rfl
 rw [this,dh];rfl
theorem iv (sv:Value) (zs:List Int) (va root:Int) (w:World) (hB:SrcAt w sv zs) (hv0:0<=va) (hv1:va<=18446744073709551615) (hr0:0<=root) (hr1:root<=18446744073709551615):
 Calls Tryz.prog 103 #[sv,.int .u64 root,.int .u64 va] w fun e w'=>iH w.heap.size w' e (aQ zs root va)∧Below w.heap.size w w':=by
 have b0:=(Below.refl w.heap.size w).alloc (Nat.le_refl _) (Obj.cells #[.int .i64 0,.int .u64 0,.slice none 0 0] 158);have r0:Hid ((w.alloc (Obj.cells #[.int .i64 0,.int .u64 0,.slice none 0 0] 158)).heap[w.heap.size]?=some (.cells #[.int .i64 0,.int .u64 0,.slice none 0 0] 158 (0,0))):=heap_alloc_new w _;have HB:Hid (SrcAt w sv zs):=hB;clear hB;have hb0:0<=root%17592186044416∧root%17592186044416<17592186044416:=⟨Int.emod_nonneg _ (by omega),Int.emod_lt_of_pos _ (by omega)⟩;have HM:Hid (bits .and .u64 root 17592186044415=root%17592186044416):=bS 44 root 17592186044415 rfl (by omega) hr0 hr1;unfold aQ;cases hcn:bH va
 ·rw [if_pos rfl];have HC:Hid (bH va=false):=hcn;clear hcn;go_enter Tryz.func103,Tryz.ntmps103;go_wp2_with fail;generalize w.alloc (Obj.cells #[.int .i64 0,.int .u64 0,.slice none 0 0] 158)=v1 at b0 r0 |-;refine (dE va v1 hv0 hv1).mono ?_;rintro e v2 ⟨rfl,rfl⟩;rw [HC.out];obtain ⟨⟨d0,d1,d2⟩,f0,f1,f2⟩:=ai r0.out;go_wp2_with fail;refine bodyPost_ret (v:=.tuple #[.agg #[.int .i64 2,.int .u64 0,.slice none 0 0],.iface 128 (.agg #[])]) (by simp [results,Tryz.results103,go_sem,d0,d1,d2]) rfl ?_;exact ⟨⟨none,0,rfl,World.ownsRow_nil _ _ _ _⟩,cA b0 (Nat.le_refl _) _ _ _⟩
 ·rw [if_neg (by simp)];have HC:Hid (bH va=true):=hcn;clear hcn;obtain ⟨X,hX⟩:∃X,bb zs va 2 (root%17592186044416)=X:=⟨_,rfl⟩;have HX:Hid (bb zs va 2 (root%17592186044416)=X):=hX;rw [hX];clear hX;go_enter Tryz.func103,Tryz.ntmps103;go_wp2_with fail;have l1:w.heap.size<(w.alloc (Obj.cells #[.int .i64 0,.int .u64 0,.slice none 0 0] 158)).heap.size:=by simp
  generalize w.alloc (Obj.cells #[.int .i64 0,.int .u64 0,.slice none 0 0] 158)=v1 at b0 r0 l1 |-;refine (dE va v1 hv0 hv1).mono ?_;rintro e v2 ⟨rfl,rfl⟩;rw [HC.out];go_wp2_with fail;refine (bp 44 17592186044415 _ (by omega)).mono ?_;rintro e v3 ⟨rfl,rfl⟩;go_wp2_with fail;rw [HM.out];refine (eT sv zs va (root%17592186044416) 2 v3 (HB.out.keep b0) (by omega) hv0 hv1 hb0.1 hb0.2).mono ?_;rintro e v4 ⟨hw,n4⟩;rw [HX.out] at hw;obtain ⟨ra,rc,rfl,o4⟩:=hw;obtain ⟨x1,x2,x3,rs⟩:=X;simp only at o4 |-;have HO:Hid (v4.ownsRow v3.heap.size 71 3 (.slice ra rs.length rc) rs.length (aP rs)):=o4;clear o4;have r4:Hid (v4.heap[w.heap.size]?=some (.cells #[.int .i64 0,.int .u64 0,.slice none 0 0] 158 (0,0))):=aC r0.out n4 l1;have b4:=Below.step b0 n4 (Nat.le_refl _);obtain ⟨⟨d0,d1,d2⟩,f0,f1,f2⟩:=ai r4.out;obtain ⟨fv,hfv⟩:∃fv,bv x1=fv:=⟨_,rfl⟩;have HF:Hid (bv x1=fv):=hfv;rw [hfv];clear hfv;go_wp2_with fail;refine bodyPost_ret (v:=.tuple #[.agg #[.int .i64 x2,.int .u64 x3,.slice ra rs.length rc],fv]) (by simp [results,Tryz.results103,go_sem,d0,d1,d2]) rfl ?_;exact ⟨⟨ra,rc,by rw [HF.out],ax (bg HO.out (gb3 _ w.heap.size _ _ _) l1) (by omega)⟩,cA b4 (Nat.le_refl _) _ _ _⟩
section
attribute [local go_sem ↓] Go.wp_at_zero Go.wp_at_succ
theorem jE:∀(rs:List bF) (i j:Nat) (hi:i<rs.length),j<3->(aP rs)[i*3+j]?=(fO rs[i])[j]?
 | r::rs,0,j,hi,hj=>by
  simp only [aP,List.getElem_cons_zero,Nat.zero_mul,Nat.zero_add];rw [List.getElem?_append_left (by simpa [fO] using hj)]
 | r::rs,i+1,j,hi,hj=>by
  simp only [aP,List.getElem_cons_succ];rw [List.getElem?_append_right (by simp [fO];omega)];have:(i+1)*3+j-(fO r).length=i*3+j:=by simp [fO];omega
  rw [this];exact jE rs i j (by simpa using hi) hj
theorem fa {w:World} {b off n:Nat} {rs:List bF} (h:RowC w (some ⟨b,off,none⟩) n 3 (aP rs)) (hn:rs.length=n) (k:Nat) (x:bF) (hx:rs[k]?=some x) (j:Nat) (v:Value) (hj:j<3) (hv:(fO x)[j]?=some v):
 w.cell? ⟨b,off+k*3+j,none⟩=some v:=by
 obtain ⟨h1,h2⟩:=h;obtain ⟨hk,rfl⟩:=List.getElem?_eq_some_iff.1 hx;rcases h2 with h2 | ⟨b',off',e,_,hc⟩
 ·omega
 ·simp at e;obtain ⟨rfl,rfl⟩:=e;have:=hc (k*3+j) v (by rw [jE rs k j hk hj];exact hv);rw [<-Nat.add_assoc] at this;exact this
end
end Go.Proofs.YtfgogedgolgnaaaGreat
