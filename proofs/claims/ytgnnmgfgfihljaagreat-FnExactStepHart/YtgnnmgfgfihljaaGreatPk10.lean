import Derived.Test.YtgnnmgfgfihljaaGreatPk09
namespace Go.Proofs.YtgnnmgfgfihljaaGreat
open Go.RowKit
set_option linter.unusedVariables false
set_option maxHeartbeats 6400000
set_option maxRecDepth 20000
def rF (acc:List dG) (r:Int × Int × Int × List dG):Int × Int × Int × List dG:=(r.1,r.2.1,r.2.2.1,acc++r.2.2.2)
theorem sq (zs:List Int) (va:Int) (k:Nat) (n:Int) (h:di zs.length (64*n+8*dk va k) 8=false):cE zs va k n=(3,(k:Int),0,[]):=by
 unfold cE;rw [if_pos h]
theorem st (zs:List Int) (va:Int) (k:Nat) (n:Int) (h:di zs.length (64*n+8*dk va k) 8=true) (hk:bu (rdV zs (64*n+8*dk va k) 8) k=0):cE zs va k n=(2,(k:Int),0,[]):=by
 unfold cE;rw [if_neg (by rw [h];simp),if_pos hk]
theorem qm (zs:List Int) (va:Int) (k:Nat) (n:Int) (h:di zs.length (64*n+8*dk va k) 8=true) (hk:bu (rdV zs (64*n+8*dk va k) 8) k=2):cE zs va k n=(1,(k:Int),rdV zs (64*n+8*dk va k) 8,[((k:Int),64*n+8*dk va k,rdV zs (64*n+8*dk va k) 8)]):=by
 unfold cE;rw [if_neg (by rw [h];simp),if_neg (by rw [hk];decide),if_pos hk]
theorem qq (zs:List Int) (va:Int) (k:Nat) (n:Int) (h:di zs.length (64*n+8*dk va ((k+1:Nat):Int)) 8=true) (hk:bu (rdV zs (64*n+8*dk va ((k+1:Nat):Int)) 8) ((k+1:Nat):Int)=1):
 cE zs va (k+1) n=rF [(((k+1:Nat):Int),64*n+8*dk va ((k+1:Nat):Int),rdV zs (64*n+8*dk va ((k+1:Nat):Int)) 8)] (cE zs va k (dg (rdV zs (64*n+8*dk va ((k+1:Nat):Int)) 8))):=by
 rw [cE,if_neg (by rw [h];simp),if_neg (by rw [hk];decide),if_neg (by rw [hk];decide)];rfl
theorem zI (a b:List dG) (r:Int × Int × Int × List dG):rF a (rF b r)=rF (a++b) r:=by
 simp [rF]
def ts (base:Nat) (w':World) (e:Ending) (r:Int × Int × Int × List dG):Prop:=
 ∃ra rc,e=.returned (.tuple #[.agg #[.int .i64 r.2.1,.int .u64 r.2.2.1,.slice ra r.2.2.2.length rc],bW r.1])∧w'.ownsRow base 261 3 (.slice ra r.2.2.2.length rc) r.2.2.2.length (cj r.2.2.2)
def xD (w:World) (p:Nat):Nat:=match w.cell? ⟨p,0,none⟩ with
 | some v=>(intOf v).toNat
 | none=>0
def SrcAt (w:World) (sv:Value) (zs:List Int):Prop:=
 ∃d x a len cap,sv=.iface d x∧(∀u,Below w.heap.size w u->(method 428 d x "loop.example/s0051/impl.entryAt").run Tryz.prog u=.ok (240,.slice a len cap) u)∧Byt w a len zs∧len<=1048576
theorem SrcAt.keep {w w':World} {sv:Value} {zs:List Int} (h:SrcAt w sv zs) (hb:Below w.heap.size w w'):SrcAt w' sv zs:=by
 obtain ⟨d,x,a,len,cap,rfl,hm,hB,hl⟩:=h;exact ⟨d,x,a,len,cap,rfl,fun u hu=>hm u (bst hb hu),hB.keep hb,hl⟩
theorem SrcAt.bd {w:World} {sv:Value} {zs:List Int} (h:SrcAt w sv zs):∀i:Nat,0<=zs[i]?.getD 0∧zs[i]?.getD 0<=255:=by
 obtain ⟨d,x,a,len,cap,rfl,hm,hB,hl⟩:=h;exact hB.2.1
theorem jf:∀a b:List dG,cj (a++b)=cj a++cj b
 | [],b=>rfl
 | r::a,b=>by simp [cj,jf a b]
theorem mC (sv:Value) (zs:List Int) (va n:Int) (l:Nat) (w:World) (hB:SrcAt w sv zs) (hl:l<=2) (hv0:0<=va) (hv1:va<=18446744073709551615) (hn0:0<=n) (hn1:n<17592186044416):
 Calls Tryz.prog 210 #[sv,.int .u64 n,.int .i64 l,.int .u64 va] w fun e w'=>ts w.heap.size w' e (cE zs va l n)∧Below w.heap.size w w':=by
 obtain ⟨dT,xS,a,len,cap,rfl,hm,hB,hlen⟩:=hB;have hz:=hB.1;have hzb:=hB.2.1;have HB:=hid hB;have HMt:Hid _:=hm;obtain ⟨X,hX⟩:∃X,cE zs va l n=X:=⟨_,rfl⟩;have HX:Hid (X=rF [] (cE zs va l n)):=by show _=_;rw [<-hX];rfl
 rw [hX];clear hX hB hm;have s0:Hid (((w.alloc (Obj.cells #[.int .i64 0,.int .u64 0,.slice none 0 0] 310)).alloc (Obj.cells #[.int .i64 l,.int .u64 0,.slice none 0 0] 310)).heap[w.heap.size+1]?=some (.cells #[.int .i64 l,.int .u64 0,.slice none 0 0] 310 (0,0))):=by
  have:=heap_alloc_new (w.alloc (Obj.cells #[.int .i64 0,.int .u64 0,.slice none 0 0] 310)) (Obj.cells #[.int .i64 l,.int .u64 0,.slice none 0 0] 310);simp only [World.size_alloc] at this;exact this
 have r0:Hid (((w.alloc (Obj.cells #[.int .i64 0,.int .u64 0,.slice none 0 0] 310)).alloc (Obj.cells #[.int .i64 l,.int .u64 0,.slice none 0 0] 310)).heap[w.heap.size]?=some (.cells #[.int .i64 0,.int .u64 0,.slice none 0 0] 310 (0,0))):=by
  show _=_;rw [heap_alloc_old _ _ (by simp)];exact heap_alloc_new w _
 have b0:Below w.heap.size w ((w.alloc (Obj.cells #[.int .i64 0,.int .u64 0,.slice none 0 0] 310)).alloc (Obj.cells #[.int .i64 l,.int .u64 0,.slice none 0 0] 310)):=((Below.refl w.heap.size w).alloc nle _).alloc (by simp) _;go_enter Tryz.func210,Tryz.ntmps210;go_wp2_with fail;go_loopw [1] (fun tt wr=>∃(k:Nat) (n':Int) (ra:Option Addr) (rc:Nat) (acc:List dG),k<=l∧tt=.int .u64 n'∧0<=n'∧n'<17592186044416∧acc.length+k<=2∧wr.heap[w.heap.size+1]?=some (.cells #[.int .i64 k,.int .u64 0,.slice ra acc.length rc] 310 (0,0))∧
  wr.heap[w.heap.size]?=some (.cells #[.int .i64 0,.int .u64 0,.slice none 0 0] 310 (0,0))∧wr.ownsRow (w.heap.size+2) 261 3 (.slice ra acc.length rc) acc.length (cj acc)∧Hid (X=rF acc (cE zs va k n'))∧Below w.heap.size w wr) (fun _ wr=>xD wr (w.heap.size+1))
 case atStart=>exact ⟨l,n,none,0,[],nle,rfl,hn0,hn1,by simpa using hl,s0.out,r0.out,World.ownsRow_nil _ _ _ _,HX,b0⟩
 case round=>
  clear s0 r0 b0 HX hn0 hn1;obtain ⟨k,n',ra,rc,acc,hk,rfl,hn0,hn1,hac,hS,hR,hO,HX,hb⟩:=hrel;have HS:=hid hS;have HR:=hid hR;have HO:=hid hO;have hlt:=(hpl hS);have HM:Hid (xD wr (w.heap.size+1)=k):=by
   show _=_;rw [xD,(ay hS).1.1];rfl
  obtain ⟨⟨c0,c1,c2⟩,e0,e1,e2⟩:=ay hS;clear hS hR hO;obtain ⟨ix,hix⟩:∃ix,dk va (k:Int)=ix:=⟨_,rfl⟩;have hib:=pw va (k:Int);rw [hix] at hib;obtain ⟨rv,hrv⟩:∃rv,rdV zs (64*n'+8*ix) 8=rv:=⟨_,rfl⟩;have hrb:=lN zs (64*n'+8*ix) 8 (by omega) hzb;rw [hrv] at hrb;have HI:=hid hix;have HV:Hid (rdV zs (64*n'+8*ix) 8=rv):=hrv;clear hix hrv;go_wp2_with fail;refine (tF n' k va wr hv0 hv1 (by omega) hn0 hn1).mono ?_;rintro e w' ⟨rfl,nq,rfl⟩;rw [HI.out];have HS1:Hid ((wr.drewN nq).heap[w.heap.size+1]?=some (.cells #[.int .i64 k,.int .u64 0,.slice ra acc.length rc] 310 (0,0))):=HS;have HR1:Hid ((wr.drewN nq).heap[w.heap.size]?=some (.cells #[.int .i64 0,.int .u64 0,.slice none 0 0] 310 (0,0))):=HR;have HO1:Hid ((wr.drewN nq).ownsRow (w.heap.size+2) 261 3 (.slice ra acc.length rc) acc.length (cj acc)):=HO;have hlt1:w.heap.size+1<(wr.drewN nq).heap.size:=hlt;have hb1:Below w.heap.size w (wr.drewN nq):=below_drewN hb nq;generalize wr.drewN nq=v1 at HS1 HR1 HO1 hlt1 hb1 |-;clear c0 c1 c2 e0 e1 e2 HS HR HO hlt hb;obtain ⟨⟨c0,c1,c2⟩,e0,e1,e2⟩:=ay HS1.out;obtain ⟨⟨d0,d1,d2⟩,f0,f1,f2⟩:=ay HR1.out;have hm:=HMt.out v1 hb1;cases hg:di len (64*n'+8*ix) 8
  ·have HG:Hid (di len (64*n'+8*ix) 8=false):=hg;clear hg;go_wp2_with fail;refine (vx a len cap (64*n'+8*ix) v1 hlen (by omega) (by omega) HG.out).mono ?_;rintro e w' ⟨rfl,rfl⟩;go_wp2_with fail;have hX:X=(3,(k:Int),0,acc):=by
    rw [HX.out,sq zs va k n' (by rw [hz,HI.out];exact HG.out)];simp [rF]
   refine bodyPost_ret (v:=.tuple #[.agg #[.int .i64 k,.int .u64 0,.slice ra acc.length rc],.iface 283 (.agg #[])]) (by simp [results,Tryz.results210,go_sem,d0,d1,d2]) rfl ?_;rw [hX];exact ⟨⟨ra,rc,rfl,aK (bX HO1.out (gb3 _ w.heap.size _ _ _) (by omega)) (by omega)⟩,fu hb1 nle _ _ _⟩
  ·have HG:Hid (di len (64*n'+8*ix) 8=true):=hg;clear hg;go_wp2_with fail;refine (xd a len cap zs (64*n'+8*ix) v1 (HB.out.keep hb1) hlen (by omega) (by omega) HG.out).mono ?_;rintro e w' ⟨rfl,rfl⟩;rw [HV.out];rcases kD rv (k:Int) with hkd | hkd | hkd
   ·have HK:Hid (bu rv (k:Int)=0):=hkd;clear hkd;go_wp2_with fail;refine (mB rv k _ hrb.1 hrb.2).mono ?_;rintro e w' ⟨rfl,rfl⟩;rw [HK.out];go_wp2_with fail;have hX:X=(2,(k:Int),0,acc):=by
     rw [HX.out,st zs va k n' (by rw [hz,HI.out];exact HG.out) (by rw [HI.out,HV.out];exact HK.out)];simp [rF]
    refine bodyPost_ret (v:=.tuple #[.agg #[.int .i64 k,.int .u64 0,.slice ra acc.length rc],.iface 282 (.agg #[])]) (by simp [results,Tryz.results210,go_sem,d0,d1,d2]) rfl ?_;rw [hX];exact ⟨⟨ra,rc,rfl,aK (bX HO1.out (gb3 _ w.heap.size _ _ _) (by omega)) (by omega)⟩,fu hb1 nle _ _ _⟩
   ·have HK:Hid (bu rv (k:Int)=1):=hkd;clear hkd;go_wp2_with fail;refine (mB rv k _ hrb.1 hrb.2).mono ?_;rintro e v3 ⟨rfl,rfl⟩;rw [HK.out];have n4:=(Below.refl v3.heap.size v3).alloc nle (Obj.cells #[.int .i64 k,.int .u64 (64*n'+8*ix),.int .u64 rv] 261);have HS4:Hid ((v3.alloc (Obj.cells #[.int .i64 k,.int .u64 (64*n'+8*ix),.int .u64 rv] 261)).heap[w.heap.size+1]?=some (.cells #[.int .i64 k,.int .u64 0,.slice ra acc.length rc] 310 (0,0))):=ae HS1.out n4 hlt1;have HR4:Hid ((v3.alloc (Obj.cells #[.int .i64 k,.int .u64 (64*n'+8*ix),.int .u64 rv] 261)).heap[w.heap.size]?=some (.cells #[.int .i64 0,.int .u64 0,.slice none 0 0] 310 (0,0))):=ae HR1.out n4 (by omega);have HO4:Hid ((v3.alloc (Obj.cells #[.int .i64 k,.int .u64 (64*n'+8*ix),.int .u64 rv] 261)).ownsRow (w.heap.size+2) 261 3 (.slice ra acc.length rc) acc.length (cj acc)):=ag HO1.out n4;have HW4:Hid (RowC (v3.alloc (Obj.cells #[.int .i64 k,.int .u64 (64*n'+8*ix),.int .u64 rv] 261)) (some ⟨v3.heap.size,0,none⟩) 1 3 (cj [((k:Int),64*n'+8*ix,rv)])):=(OwnC.new 261 3 v3 (cj [((k:Int),64*n'+8*ix,rv)]) 1 (by rfl) (by decide)).row;have l4:v3.heap.size<(v3.alloc (Obj.cells #[.int .i64 k,.int .u64 (64*n'+8*ix),.int .u64 rv] 261)).heap.size:=by simp
    have b4:Below w.heap.size w (v3.alloc (Obj.cells #[.int .i64 k,.int .u64 (64*n'+8*ix),.int .u64 rv] 261)):=hb1.alloc (by omega) _;go_wp2_with (at_builtin;refine qH _ rfl (.tmp 43) (.tmp 49) 251 rfl 261 Tryz.underlying251 (.agg #[.int .i64 0,.int .u64 0,.int .u64 0]) 3 24 Tryz.infoRec rfl (by decide) (w.heap.size+2) acc.length _ (cj acc) rfl HO4.out v3.heap.size 0 1 1 (cj [((k:Int),64*n'+8*ix,rv)]) rfl (by omega) HW4.out (kC _) (by omega) (by omega) (by omega) (w.heap.size+2) _ (Below.refl _ _) nle ?_;intro g5 cp5 v5 o5 n5;have HO5:Hid (v5.ownsRow (w.heap.size+2) 261 3 (.slice (some ⟨g5,0,none⟩) (acc.length+1) cp5) (acc.length+1) (cj acc++cj [((k:Int),64*n'+8*ix,rv)])):=o5;have HS5:Hid (v5.heap[w.heap.size+1]?=some (.cells #[.int .i64 k,.int .u64 0,.slice ra acc.length rc] 310 (0,0))):=(n5.block _ (by omega)).trans HS4.out;have HR5:Hid (v5.heap[w.heap.size]?=some (.cells #[.int .i64 0,.int .u64 0,.slice none 0 0] 310 (0,0))):=(n5.block _ (by omega)).trans HR4.out;have b5:Below w.heap.size w v5:=b4.trans (n5.mono (by omega));have l5:=n5.size;clear c0 c1 c2 e0 e1 e2 d0 d1 d2 f0 f1 f2 o5;obtain ⟨⟨c0,c1,c2⟩,e0,e1,e2⟩:=ay HS5.out;obtain ⟨⟨d0,d1,d2⟩,f0,f1,f2⟩:=ay HR5.out;clear n5 n4 HS4 HR4 HO4 HW4 b4 HS1 HR1 HO1);have HS6:Hid ((v5.setCell ⟨w.heap.size+1,2,none⟩ (.slice (some ⟨g5,0,none⟩) (acc.length+1) cp5)).heap[w.heap.size+1]?=some (.cells #[.int .i64 k,.int .u64 0,.slice (some ⟨g5,0,none⟩) (acc.length+1) cp5] 310 (0,0))):=BY HS5.out;have m6:=ak (au v5 (some (w.heap.size+1))) 2 (.slice (some ⟨g5,0,none⟩) (acc.length+1) cp5);have HR6:Hid ((v5.setCell ⟨w.heap.size+1,2,none⟩ (.slice (some ⟨g5,0,none⟩) (acc.length+1) cp5)).heap[w.heap.size]?=some (.cells #[.int .i64 0,.int .u64 0,.slice none 0 0] 310 (0,0))):=aQ HR5.out m6 (by omega);have HO6:Hid ((v5.setCell ⟨w.heap.size+1,2,none⟩ (.slice (some ⟨g5,0,none⟩) (acc.length+1) cp5)).ownsRow (w.heap.size+2) 261 3 (.slice (some ⟨g5,0,none⟩) (acc.length+1) cp5) (acc.length+1) (cj acc++cj [((k:Int),64*n'+8*ix,rv)])):=bX HO5.out m6 (by omega);have b6:=b5.setCell (p:=⟨w.heap.size+1,2,none⟩) (by show w.heap.size<=w.heap.size+1;omega) (.slice (some ⟨g5,0,none⟩) (acc.length+1) cp5);refine (tj rv _ hrb.1 hrb.2).mono ?_;rintro e w' ⟨rfl,rfl⟩;generalize v5.setCell ⟨w.heap.size+1,2,none⟩ (.slice (some ⟨g5,0,none⟩) (acc.length+1) cp5)=v6 at HS6 HR6 HO6 b6 |-;clear c0 c1 c2 e0 e1 e2 d0 d1 d2 f0 f1 f2 m6 HS5 HR5 HO5 b5;obtain ⟨⟨c0,c1,c2⟩,e0,e1,e2⟩:=ay HS6.out;have hpb:=py rv;obtain ⟨pp,hpp⟩:∃pp,dg rv=pp:=⟨_,rfl⟩;have HP:Hid (dg rv=pp):=hpp;rw [hpp] at hpb |-;clear hpp;obtain ⟨k',rfl⟩:∃k',k=k'+1:=by
     cases k with
     | zero=>exact absurd HK.out (ia _)
     | succ k'=>exact ⟨k',rfl⟩
    go_wp2_with fail;go_roundw
    case rel=>
     refine ⟨k',pp,some ⟨g5,0,none⟩,cp5,acc++[(((k'+1:Nat):Int),64*n'+8*ix,rv)],by omega,rfl,hpb.1,hpb.2,by simp;omega,?_,?_,?_,?_,?_⟩
     ·rw [show (acc++[(((k'+1:Nat):Int),64*n'+8*ix,rv)]).length=acc.length+1 by simp,show ((k':Nat):Int)=((k'+1:Nat):Int)-1 by omega];exact Bg HS6.out
     ·exact aQ HR6.out (ak (au v6 (some (w.heap.size+1))) 0 _) (by omega)
     ·rw [show (acc++[(((k'+1:Nat):Int),64*n'+8*ix,rv)]).length=acc.length+1 by simp,jf];exact bX HO6.out (ak (au v6 (some (w.heap.size+1))) 0 _) (by omega)
     ·show _=_;rw [HX.out,qq zs va k' n' (by rw [hz,HI.out];exact HG.out) (by rw [HI.out,HV.out];exact HK.out),zI,HI.out,HV.out,HP.out]
     ·exact b6.setCell (p:=⟨w.heap.size+1,0,none⟩) (by show w.heap.size<=w.heap.size+1;omega) _
    case measure=>
     rw [HM.out,xD,(ay (Bg HS6.out)).1.1];simp [intOf]
   ·have HK:Hid (bu rv (k:Int)=2):=hkd;clear hkd;go_wp2_with fail;refine (mB rv k _ hrb.1 hrb.2).mono ?_;rintro e v3 ⟨rfl,rfl⟩;rw [HK.out];have n4:=(Below.refl v3.heap.size v3).alloc nle (Obj.cells #[.int .i64 k,.int .u64 (64*n'+8*ix),.int .u64 rv] 261);have HS4:=hid (ae HS1.out n4 hlt1);have HR4:=hid (ae HR1.out n4 (by omega));have HO4:=hid (ag HO1.out n4);have HW4:=hid ((OwnC.new 261 3 v3 (cj [((k:Int),64*n'+8*ix,rv)]) 1 (by rfl) (by decide)).row);have l4:v3.heap.size<(v3.alloc (Obj.cells #[.int .i64 k,.int .u64 (64*n'+8*ix),.int .u64 rv] 261)).heap.size:=by simp
    have b4:Below w.heap.size w (v3.alloc (Obj.cells #[.int .i64 k,.int .u64 (64*n'+8*ix),.int .u64 rv] 261)):=hb1.alloc (by omega) _;go_wp2_with (at_builtin;refine qH _ rfl (.tmp 43) (.tmp 49) 251 rfl 261 Tryz.underlying251 (.agg #[.int .i64 0,.int .u64 0,.int .u64 0]) 3 24 Tryz.infoRec rfl (by decide) (w.heap.size+2) acc.length _ (cj acc) rfl HO4.out v3.heap.size 0 1 1 (cj [((k:Int),64*n'+8*ix,rv)]) rfl (by omega) HW4.out (kC _) (by omega) (by omega) (by omega) (w.heap.size+2) _ (Below.refl _ _) nle ?_;intro g5 cp5 v5 o5 n5;have HO5:Hid (v5.ownsRow (w.heap.size+2) 261 3 (.slice (some ⟨g5,0,none⟩) (acc.length+1) cp5) (acc.length+1) (cj acc++cj [((k:Int),64*n'+8*ix,rv)])):=o5;have HS5:Hid (v5.heap[w.heap.size+1]?=some (.cells #[.int .i64 k,.int .u64 0,.slice ra acc.length rc] 310 (0,0))):=(n5.block _ (by omega)).trans HS4.out;have HR5:Hid (v5.heap[w.heap.size]?=some (.cells #[.int .i64 0,.int .u64 0,.slice none 0 0] 310 (0,0))):=(n5.block _ (by omega)).trans HR4.out;have b5:Below w.heap.size w v5:=b4.trans (n5.mono (by omega));have l5:=n5.size;clear c0 c1 c2 e0 e1 e2 d0 d1 d2 f0 f1 f2 o5;obtain ⟨⟨c0,c1,c2⟩,e0,e1,e2⟩:=ay HS5.out;obtain ⟨⟨d0,d1,d2⟩,f0,f1,f2⟩:=ay HR5.out;clear n5 n4 HS4 HR4 HO4 HW4 b4 HS1 HR1 HO1);have hX:X=(1,(k:Int),rv,acc++[((k:Int),64*n'+8*ix,rv)]):=by
     rw [HX.out,qm zs va k n' (by rw [hz,HI.out];exact HG.out) (by rw [HI.out,HV.out];exact HK.out),HI.out,HV.out];rfl
    refine bodyPost_ret (v:=.tuple #[.agg #[.int .i64 k,.int .u64 rv,.slice (some ⟨g5,0,none⟩) (acc.length+1) cp5],.nilIface]) (by simp [results,Tryz.results210,go_sem,d0,d1,d2]) rfl ?_;rw [hX];refine ⟨⟨some ⟨g5,0,none⟩,cp5,?_,?_⟩,fu ((b5.setCell (p:=⟨w.heap.size+1,2,none⟩) (by show w.heap.size<=w.heap.size+1;omega) _).setCell (p:=⟨w.heap.size+1,1,none⟩) (by show w.heap.size<=w.heap.size+1;omega) _) nle _ _ _⟩
    ·simp [bW]
    ·rw [show (acc++[((k:Int),64*n'+8*ix,rv)]).length=acc.length+1 by simp,jf];exact aK (bX (bX HO5.out (ak (ak (au v5 (some (w.heap.size+1))) 2 _) 1 _) (by omega)) (gb3 _ w.heap.size _ _ _) (by omega)) (by omega)
theorem qO (va l:Int) (hl:l=0∨l=1∨l=2):0<=eF va l∧eF va l<=511:=by
 rcases hl with rfl | rfl | rfl <;> simp only [eF] <;> (try simp) <;> omega
theorem AU {t:TlbM} {p:Bool} {va asid l:Int} {q:Nat} {x:EntM} (hv:aL t p=true) (hx:t.es[q]?=some x) (hh:fV va asid l x=true):(q:Int)/t.ways=eF va l%t.sets:=by
 have hp:=iX hv q x hx;simp only [fV,jS,Bool.and_eq_true,beq_iff_eq] at hh;obtain ⟨h1,⟨h2,h3⟩,_⟩:=hh;simp only [bZ,Bool.or_eq_true,Bool.and_eq_true,beq_iff_eq] at hp;rcases hp with hp | hp
 ·rw [h2] at hp;simp at hp
 ·rw [<-hp.2,h3,h1]
theorem uX {t:TlbM} {p:Bool} (hv:aL t p=true):(t.sets=1∨t.sets=2∨t.sets=4∨t.sets=8)∧1<=t.ways∧t.ways<=4∧(t.es.length:Int)=t.sets*t.ways:=eL hv
theorem tE {t:TlbM} {p:Bool} {va asid l:Int} {q f:Nat} {x:EntM} (hv:aL t p=true) (hx:t.es[q]?=some x) (hf:(f:Int)=eF va l%t.sets*t.ways) (hq:q<f∨(f:Int)+t.ways<=q):fV va asid l x=false:=by
 cases hh:fV va asid l x
 ·rfl
 ·exfalso;have h1:=AU hv hx hh;obtain ⟨_,w1,w4,_⟩:=uX hv;rw [<-h1] at hf;rcases (show t.ways=1∨t.ways=2∨t.ways=3∨t.ways=4 by omega) with hw | hw | hw | hw <;> rw [hw] at hf hq <;> omega
theorem yG {t:TlbM} {p:Bool} {va asid l:Int} {f:Nat} (hv:aL t p=true) (hf:(f:Int)=eF va l%t.sets*t.ways)
 (h:∀(j:Nat) x,(j:Int)<t.ways->t.es[f+j]?=some x->fV va asid l x=false):dq va asid l 0 t.es=none:=by
 refine lH va asid l t.es 0 (fun j x hx=>?_);by_cases h1:j<f
 ·exact tE hv hx hf (.inl h1)
 ·by_cases h2:(f:Int)+t.ways<=j
  ·exact tE hv hx hf (.inr h2)
  ·exact h (j-f) x (by omega) (by rw [show f+(j-f)=j by omega];exact hx)
theorem yH {t:TlbM} {p:Bool} {va asid l:Int} {f k:Nat} {x:EntM} (hv:aL t p=true) (hf:(f:Int)=eF va l%t.sets*t.ways) (hx:t.es[f+k]?=some x) (hh:fV va asid l x=true)
 (h:∀(j:Nat) y,j<k->t.es[f+j]?=some y->fV va asid l y=false):dq va asid l 0 t.es=some (f+k,x):=by
 have:=lJ va asid l t.es 0 (f+k) x hx hh (fun j y hj hy=>by
  by_cases h1:j<f
  ·exact tE hv hy hf (.inl h1)
  ·exact h (j-f) y (by omega) (by rw [show f+(j-f)=j by omega];exact hy))
 rw [Nat.zero_add] at this;exact this
theorem sy (va asid l:Int):∀(es:List EntM) (i k:Nat) (x:EntM),dq va asid l i es=some (k,x)->∃j,k=i+j∧es[j]?=some x∧fV va asid l x=true
 | [],i,k,x,h=>by cases h
 | e::r,i,k,x,h=>by
  rw [dq] at h;split at h
  ·rename_i hh;cases h;exact ⟨0,rfl,rfl,hh⟩
  ·obtain ⟨j,rfl,h2,h3⟩:=sy va asid l r (i+1) k x h;exact ⟨j+1,by omega,by simpa using h2,h3⟩
theorem kL (t:TlbM) (va asid:Int) (h:(aU t va asid).1=true):∃(k:Nat) (x:EntM),t.es[k]?=some x∧(aU t va asid).2.1=(k:Int)∧(aU t va asid).2.2.1=x.level∧(aU t va asid).2.2.2=x.pte∧jS x va asid=true∧x.valid=true:=by
 have key:∀(l:Int) (k:Nat) (x:EntM),dq va asid l 0 t.es=some (k,x)->t.es[k]?=some x∧l=x.level∧jS x va asid=true∧x.valid=true:=by
  intro l k x hf;obtain ⟨j,rfl,h2,h3⟩:=sy va asid l t.es 0 k x hf;simp only [fV,Bool.and_eq_true,beq_iff_eq] at h3;have hv:x.valid=true:=by
   have:=h3.2;simp only [jS,Bool.and_eq_true] at this;exact this.1.1
  exact ⟨by rw [Nat.zero_add];exact h2,h3.1.symm,h3.2,hv⟩
 unfold aU at h |-;split at h
 ·cases h
 ·rename_i he;rw [if_neg he];cases h0:dq va asid 0 0 t.es with
  | some y=>
   obtain ⟨k,x⟩:=y;obtain ⟨a1,a2,a3,a4⟩:=key 0 k x h0;exact ⟨k,x,a1,by simp [gv],by simp [gv,<-a2],by simp [gv],a3,a4⟩
  | none=>
   cases h1:dq va asid 1 0 t.es with
   | some y=>
    obtain ⟨k,x⟩:=y;obtain ⟨a1,a2,a3,a4⟩:=key 1 k x h1;exact ⟨k,x,a1,by simp [gv],by simp [gv,<-a2],by simp [gv],a3,a4⟩
   | none=>
    cases h2:dq va asid 2 0 t.es with
    | some y=>
     obtain ⟨k,x⟩:=y;obtain ⟨a1,a2,a3,a4⟩:=key 2 k x h2;exact ⟨k,x,a1,by simp [gv],by simp [gv,<-a2],by simp [gv],a3,a4⟩
    | none=>
     rw [h0,h1,h2] at h;simp [gv] at h
theorem uY {t:TlbM} {va asid i l pt:Int} (h:aU t va asid=(false,i,l,pt)):(i,l,pt)=(0,0,0):=by
 unfold aU at h;split at h
 ·cases h;rfl
 ·cases h0:dq va asid 0 0 t.es with
  | some y=>simp [h0,gv] at h
  | none=>
   cases h1:dq va asid 1 0 t.es with
   | some y=>simp [h0,h1,gv] at h
   | none=>
    cases h2:dq va asid 2 0 t.es with
    | some y=>simp [h0,h1,h2,gv] at h
    | none=>
     simp [h0,h1,h2,gv] at h;obtain ⟨rfl,rfl,rfl⟩:=h;rfl
def oF (r:Int × Int × Int × List dG) (k:Nat) (ps:List dG):Prop:=
 (∀p∈ps,bu p.2.2 p.1=1∧0<=p.1∧p.1<=k∧0<=p.2.2∧p.2.2<=18446744073709551615)∧
 ((r.1=1∧(∃ad,r.2.2.2=ps++[(r.2.1,ad,r.2.2.1)])∧bu r.2.2.1 r.2.1=2∧0<=r.2.1∧r.2.1<=k∧0<=r.2.2.1∧r.2.2.1<=18446744073709551615)∨((r.1=2∨r.1=3)∧r.2.2.2=ps∧r.2.2.1=0))
theorem wA (level:Int):bu 0 level≠2:=by
 unfold bu;split
 ·decide
 ·simp [bj];split <;> omega
theorem jL (zs:List Int) (va:Int) (hz:∀i:Nat,0<=zs[i]?.getD 0∧zs[i]?.getD 0<=255):∀(k:Nat) (n:Int),∃ps,oF (cE zs va k n) k ps∧ps.length<=k
 | k,n=>by
  cases hg:di zs.length (64*n+8*dk va k) 8
  ·rw [sq zs va k n hg];exact ⟨[],⟨by simp,.inr ⟨.inr rfl,rfl,rfl⟩⟩,by simp⟩
  ·have hb:=lN zs (64*n+8*dk va k) 8 (by omega) hz;rcases kD (rdV zs (64*n+8*dk va k) 8) (k:Int) with hk | hk | hk
   ·rw [st zs va k n hg hk];exact ⟨[],⟨by simp,.inr ⟨.inl rfl,rfl,rfl⟩⟩,by simp⟩
   ·cases k with
    | zero=>exact absurd hk (ia _)
    | succ k'=>
     rw [qq zs va k' n hg hk];obtain ⟨ps,⟨h1,h2⟩,h3⟩:=jL zs va hz k' (dg (rdV zs (64*n+8*dk va ((k'+1:Nat):Int)) 8));refine ⟨(((k'+1:Nat):Int),64*n+8*dk va ((k'+1:Nat):Int),rdV zs (64*n+8*dk va ((k'+1:Nat):Int)) 8)::ps,⟨?_,?_⟩,by simp;omega⟩
     ·intro p hp;rcases List.mem_cons.1 hp with rfl | hp
      ·exact ⟨hk,by simp only;omega,by simp only;omega,hb.1,hb.2⟩
      ·obtain ⟨q1,q2,q3,q4⟩:=h1 p hp;exact ⟨q1,q2,by omega,q4⟩
     ·simp only [rF];rcases h2 with ⟨e1,⟨ad,e2⟩,e3,e4,e5,e6⟩ | ⟨e1,e2,e3⟩
      ·exact .inl ⟨e1,⟨ad,by rw [e2];rfl⟩,e3,e4,by omega,e6⟩
      ·exact .inr ⟨e1,by rw [e2];rfl,e3⟩
   ·rw [qm zs va k n hg hk];exact ⟨[],⟨by simp,.inl ⟨rfl,⟨_,rfl⟩,hk,by simp only;omega,Int.le_refl _,hb.1,hb.2⟩⟩,by simp⟩
theorem uw (zs:List Int) (root va:Int) (hz:∀i:Nat,0<=zs[i]?.getD 0∧zs[i]?.getD 0<=255):∃ps,oF (ce zs root va) 2 ps∧ps.length<=2:=by
 unfold ce;split
 ·exact ⟨[],⟨by simp,.inr ⟨.inl rfl,rfl,rfl⟩⟩,by simp⟩
 ·exact jL zs va hz 2 _
theorem wB {r:Int × Int × Int × List dG} {k k':Nat} {ps:List dG} (h:oF r k ps) (hk:k<=k'):oF r k' ps:=by
 obtain ⟨h1,h2⟩:=h;refine ⟨fun p hp=>?_,?_⟩
 ·obtain ⟨q1,q2,q3,q4⟩:=h1 p hp;exact ⟨q1,q2,by omega,q4⟩
 ·rcases h2 with ⟨e1,e2,e3,e4,e5,e6⟩ | h2
  ·exact .inl ⟨e1,e2,e3,e4,by omega,e6⟩
  ·exact .inr h2
theorem kZ (zs:List Int) (satp va:Int) (t:TlbM) (asid:Int) (ht:aL t true=true) (hz:∀i:Nat,0<=zs[i]?.getD 0∧zs[i]?.getD 0<=255):∃ps,oF (aY zs satp va (aU t va asid)) 2 ps∧ps.length<=2:=by
 unfold aY;split
 ·rename_i hf;obtain ⟨q,x,h1,h2,h3,h4,h5,h6⟩:=kL t va asid hf;have hl:=dM (dC ht) q x h1 h6;have hle:((aU t va asid).2.2.1-1).toNat<=2:=by rw [h3];omega
  obtain ⟨ps,a1,a2⟩:=jL zs va hz ((aU t va asid).2.2.1-1).toNat (dg (aU t va asid).2.2.2);exact ⟨ps,wB a1 hle,by omega⟩
 ·exact uw zs satp va hz
theorem iu (va satp pick:Int):∀(a b:List dG) (p:TlbM),cx va satp pick (a++b) p=cx va satp pick b (cx va satp pick a p)
 | [],b,p=>rfl
 | r::a,b,p=>by
  rw [List.cons_append,cx,cx];exact iu va satp pick a b _
theorem ey (t:TlbM) (e:EntM) (pick:Int):(cV t e pick).es.length=t.es.length∧(cV t e pick).sets=t.sets∧(cV t e pick).ways=t.ways:=by
 unfold cV;split
 ·simp
 ·exact ⟨rfl,rfl,rfl⟩
theorem jM (va satp pick:Int):∀(rs:List dG) (p:TlbM),(cx va satp pick rs p).es.length=p.es.length∧(cx va satp pick rs p).sets=p.sets∧(cx va satp pick rs p).ways=p.ways
 | [],p=>⟨rfl,rfl,rfl⟩
 | r::rs,p=>by
  rw [cx];have ih:=jM va satp pick rs (if bu r.2.2 r.1=1 then cV p (ee r.1 va satp r.2.2) pick else p);split at ih
  ·rename_i hk;rw [if_pos hk];have h:=ey p (ee r.1 va satp r.2.2) pick;exact ⟨ih.1.trans h.1,ih.2.1.trans h.2.1,ih.2.2.trans h.2.2⟩
  ·rename_i hk;rw [if_neg hk];exact ih
theorem wC {r:Int × Int × Int × List dG} {k:Nat} {ps:List dG} (va satp pick:Int) (p:TlbM) (h:oF r k ps):cx va satp pick r.2.2.2 p=cx va satp pick ps p:=by
 rcases h.2 with ⟨_,⟨ad,e⟩,hk,_⟩ | ⟨_,e,_⟩
 ·rw [e,iu];rw [cx,cx,if_neg (by simp only;omega)]
 ·rw [e]
theorem tK (t:TlbM) (va asid:Int) (he:∀e∈t.es,dS e) (h:(aU t va asid).1=true):(0<=(aU t va asid).2.2.2∧(aU t va asid).2.2.2<=18446744073709551615)∧(-9223372036854775808<=(aU t va asid).2.2.1∧(aU t va asid).2.2.1<=9223372036854775807):=by
 obtain ⟨k,x,hx,_,hl,hp,_⟩:=kL t va asid h;have hk:=he x (List.mem_of_getElem? hx);rw [hl,hp];exact ⟨hk.2.2.2,hk.1⟩
theorem su (zs:List Int) (root va:Int):(ce zs root va).2.2.2.length<=3:=by
 unfold ce;split
 ·simp
 ·exact kK zs va 2 _
structure WalkLim (r:Int × Int × Int × List dG):Prop where
 len:r.2.2.2.length<=3
 pte:0<=r.2.2.1∧r.2.2.1<=18446744073709551615
 level:0<=r.2.1∧r.2.1<=2
 recs:∀x∈r.2.2.2,(0<=x.1∧x.1<=2)∧0<=x.2.2∧x.2.2<=18446744073709551615
theorem qB {r:Int × Int × Int × List dG} {ps:List dG} (h:oF r 2 ps):∀x∈r.2.2.2,(0<=x.1∧x.1<=2)∧0<=x.2.2∧x.2.2<=18446744073709551615:=by
 obtain ⟨h1,h2⟩:=h;intro x hx;rcases h2 with ⟨_,⟨ad,e⟩,_,e4,e5,e6,e7⟩ | ⟨_,e,_⟩
 ·rw [e] at hx;rcases List.mem_append.1 hx with hx | hx
  ·obtain ⟨_,q2,q3,q4,q5⟩:=h1 x hx;exact ⟨⟨q2,by omega⟩,q4,q5⟩
  ·have:x=(r.2.1,ad,r.2.2.1):=by simpa using hx
   subst this;exact ⟨⟨e4,by omega⟩,e6,e7⟩
 ·rw [e] at hx;obtain ⟨_,q2,q3,q4,q5⟩:=h1 x hx;exact ⟨⟨q2,by omega⟩,q4,q5⟩
theorem mD (zs:List Int) (satp va:Int) (t:TlbM) (asid:Int) (ht:aL t true=true) (he:∀e∈t.es,dS e) (hz:∀i:Nat,0<=zs[i]?.getD 0∧zs[i]?.getD 0<=255):
 ((aU t va asid).1=true->∃l:Nat,(aU t va asid).2.2.1=(l:Int)+1∧l<=1∧0<=(aU t va asid).2.2.2∧(aU t va asid).2.2.2<=18446744073709551615∧aY zs satp va (aU t va asid)=cE zs va l (dg (aU t va asid).2.2.2))∧
 ((aU t va asid).1=false->aY zs satp va (aU t va asid)=ce zs satp va)∧WalkLim (aY zs satp va (aU t va asid)):=by
 obtain ⟨ps,hs,_⟩:=kZ zs satp va t asid ht hz;cases hf:(aU t va asid).1
 ·have e:aY zs satp va (aU t va asid)=ce zs satp va:=by rw [aY,if_neg (by rw [hf];simp)]
  have hb:=qy zs satp va hz;refine ⟨fun h=>(by cases h),fun _=>e,?_⟩;have hr:=qB hs;rw [e] at hr |-;exact ⟨su zs satp va,⟨hb.1,hb.2.1⟩,hb.2.2,hr⟩
 ·obtain ⟨q,x,h1,h2,h3,h4,h5,h6⟩:=kL t va asid hf;have hl:=dM (dC ht) q x h1 h6;have hpl:=iX ht q x h1;have hlim:=(tK t va asid he hf).1;have hk1:x.level≠0:=by
   intro h0;have hg:aW x true=true:=by
    simp only [bZ,Bool.or_eq_true,Bool.and_eq_true] at hpl;have h7:aW x true=true∧x.tag%t.sets=q/t.ways:=by simpa [h6] using hpl
    exact h7.1
   have:=yI hg;rw [h0] at this;exact ia _ this
  have e:aY zs satp va (aU t va asid)=cE zs va ((aU t va asid).2.2.1-1).toNat (dg (aU t va asid).2.2.2):=by rw [aY,if_pos hf]
  have hb:=qx zs va hz ((aU t va asid).2.2.1-1).toNat (dg (aU t va asid).2.2.2) (by rw [h3];omega);refine ⟨fun _=>⟨((aU t va asid).2.2.1-1).toNat,by rw [h3];omega,by rw [h3];omega,hlim.1,hlim.2,e⟩,fun h=>(by cases h),?_⟩;have hr:=qB hs;have hln:=kK zs va ((aU t va asid).2.2.1-1).toNat (dg (aU t va asid).2.2.2);rw [e] at hr |-;exact ⟨by rw [h3] at hln |-;omega,⟨hb.1,hb.2.1⟩,hb.2.2,hr⟩
theorem pr (level va satp pte:Int) (hl:0<=level∧level<=2) (hp:0<=pte∧pte<=18446744073709551615):dS (ee level va satp pte):=by
 have ht:=qO va level (by omega);refine ⟨⟨by simp only [ee];omega,by simp only [ee];omega⟩,⟨ht.1,?_⟩,?_,hp⟩
 ·simp only [ee];omega
 ·simp only [ee,aG];omega
theorem sj {t:TlbM} {e:EntM} (pick:Int) (ht:eh t) (he:dS e):eh (cV t e pick):=by
 obtain ⟨l1,l2,l3⟩:=ey t e pick;obtain ⟨h1,h2,h3,h4⟩:=ht;refine ⟨?_,by rw [l2];exact h2,by rw [l3];exact h3,by rw [l1];exact h4⟩;unfold cV;split
 ·intro x hx;simp only at hx;rcases List.mem_or_eq_of_mem_set hx with hx | rfl
  ·exact h1 x hx
  ·exact he
 ·exact h1
theorem tf (va satp pick:Int):∀(rs:List dG) (p:TlbM),eh p->(∀x∈rs,(0<=x.1∧x.1<=2)∧0<=x.2.2∧x.2.2<=18446744073709551615)->eh (cx va satp pick rs p)
 | [],p,h,_=>h
 | r::rs,p,h,hx=>by
  rw [cx];refine tf va satp pick rs _ ?_ fun x hx'=>hx x (List.mem_cons_of_mem _ hx');have hr:=hx r (List.mem_cons_self ..);split
  ·exact sj pick h (pr _ _ _ _ hr.1 hr.2)
  ·exact h
theorem yo (va satp pick:Int) (rs:List dG) (p:TlbM) (j:Nat) (x:dG) (hx:rs[j]?=some x):
 cx va satp pick (rs.take (j+1)) p=if bu x.2.2 x.1=1 then cV (cx va satp pick (rs.take j) p) (ee x.1 va satp x.2.2) pick else cx va satp pick (rs.take j) p:=by
 have:rs.take (j+1)=rs.take j++[x]:=by
  rw [List.take_add_one,hx];rfl
 rw [this,iu];rfl
end Go.Proofs.YtgnnmgfgfihljaaGreat
