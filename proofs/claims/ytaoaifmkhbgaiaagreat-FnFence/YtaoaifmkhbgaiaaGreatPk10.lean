import Derived.Test.YtaoaifmkhbgaiaaGreatPk09
import Derived.Test.YtaoaifmkhbgaiaaGreatPk07
import Derived.Test.YtaoaifmkhbgaiaaGreatPk08
import Derived.Test.YtaoaifmkhbgaiaaGreatPk05
import Derived.Deep.RegionLaw
import Derived.Test.YtaoaifmkhbgaiaaGreatPk06
namespace Go.Proofs.YtaoaifmkhbgaiaaGreat
open Go.RowKit
set_option linter.unusedVariables false
def sJ (acc:List ef) (r:Int × Int × Int × List ef):Int × Int × Int × List ef:=(r.1,r.2.1,r.2.2.1,acc++r.2.2.2)
theorem ts (zs:List Int) (va:Int) (k:Nat) (n:Int) (h:dM zs.length (64*n+8*dA va k) 8=false):cN zs va k n=(3,(k:Int),0,[]):=by
 unfold cN;rw [if_pos h]
theorem tu (zs:List Int) (va:Int) (k:Nat) (n:Int) (h:dM zs.length (64*n+8*dA va k) 8=true) (hk:bC (rdV zs (64*n+8*dA va k) 8) k=0):cN zs va k n=(2,(k:Int),0,[]):=by
 unfold cN;rw [if_neg (by rw [h];simp),if_pos hk]
theorem rE (zs:List Int) (va:Int) (k:Nat) (n:Int) (h:dM zs.length (64*n+8*dA va k) 8=true) (hk:bC (rdV zs (64*n+8*dA va k) 8) k=2):cN zs va k n=(1,(k:Int),rdV zs (64*n+8*dA va k) 8,[((k:Int),64*n+8*dA va k,rdV zs (64*n+8*dA va k) 8)]):=by
 unfold cN;rw [if_neg (by rw [h];simp),if_neg (by rw [hk];decide),if_pos hk]
theorem rF (zs:List Int) (va:Int) (k:Nat) (n:Int) (h:dM zs.length (64*n+8*dA va ((k+1:Nat):Int)) 8=true) (hk:bC (rdV zs (64*n+8*dA va ((k+1:Nat):Int)) 8) ((k+1:Nat):Int)=1):
 cN zs va (k+1) n=sJ [(((k+1:Nat):Int),64*n+8*dA va ((k+1:Nat):Int),rdV zs (64*n+8*dA va ((k+1:Nat):Int)) 8)] (cN zs va k (dK (rdV zs (64*n+8*dA va ((k+1:Nat):Int)) 8))):=by
 rw [cN,if_neg (by rw [h];simp),if_neg (by rw [hk];decide),if_neg (by rw [hk];decide)];rfl
theorem zu (a b:List ef) (r:Int × Int × Int × List ef):sJ a (sJ b r)=sJ (a++b) r:=by
 simp [sJ]
def ui (base:Nat) (w':World) (e:Ending) (r:Int × Int × Int × List ef):Prop:=
 ∃ra rc,e=.returned (.tuple #[.agg #[.int .i64 r.2.1,.int .u64 r.2.2.1,.slice ra r.2.2.2.length rc],cX r.1])∧w'.ownsRow base 90 3 (.slice ra r.2.2.2.length rc) r.2.2.2.length (cD r.2.2.2)
def xF (w:World) (p:Nat):Nat:=match w.cell? ⟨p,0,none⟩ with
 | some v=>(intOf v).toNat
 | none=>0
theorem rG (a:Option Addr) (len cap:Nat) (w:World):(method 353 120 (.slice a len cap) "loop.example/s0051/impl.entryAt").run Tryz.prog w=.ok (185,.slice a len cap) w:=by kernel_rfl
def SrcAt (w:World) (sv:Value) (zs:List Int):Prop:=
 ∃d x a len cap,sv=.iface d x∧(∀u,Below w.heap.size w u→(method 353 d x "loop.example/s0051/impl.entryAt").run Tryz.prog u=.ok (185,.slice a len cap) u)∧Byt w a len zs∧len≤1048576
theorem SrcAt.keep {w w':World} {sv:Value} {zs:List Int} (h:SrcAt w sv zs) (hb:Below w.heap.size w w'):SrcAt w' sv zs:=by
 obtain ⟨d,x,a,len,cap,rfl,hm,hB,hl⟩:=h;exact ⟨d,x,a,len,cap,rfl,fun u hu=>hm u (Below.step hb hu (Nat.le_refl _)),hB.keep hb,hl⟩
theorem SrcAt.bd {w:World} {sv:Value} {zs:List Int} (h:SrcAt w sv zs):∀i:Nat,0≤zs[i]?.getD 0∧zs[i]?.getD 0≤255:=by
 obtain ⟨d,x,a,len,cap,rfl,hm,hB,hl⟩:=h;exact hB.2.1
theorem xG {w:World} {a:Option Addr} {len:Nat} {zs:List Int} (cap:Nat) (hB:Byt w a len zs) (hlen:len≤1048576):SrcAt w (.iface 120 (.slice a len cap)) zs:=
 ⟨_,_,a,len,cap,rfl,fun u _=>rG a len cap u,hB,hlen⟩
theorem kC:∀a b:List ef,cD (a++b)=cD a++cD b
 | [],b=>rfl
 | r::a,b=>by simp [cD,kC a b]
set_option maxRecDepth 20000 in
set_option maxHeartbeats 1600000 in
theorem oQ (sv:Value) (zs:List Int) (va n:Int) (l:Nat) (w:World) (hB:SrcAt w sv zs) (hl:l≤2) (hv0:0≤va) (hv1:va≤18446744073709551615) (hn0:0≤n) (hn1:n<17592186044416):
 Calls Tryz.prog 141 #[sv,.int .u64 n,.int .i64 l,.int .u64 va] w fun e w'=>ui w.heap.size w' e (cN zs va l n)∧Below w.heap.size w w':=by
 obtain ⟨dT,xS,a,len,cap,rfl,hm,hB,hlen⟩:=hB;have hz:=hB.1;have hzb:=hB.2.1;have HB:Hid (Byt w a len zs):=hB;have HMt:Hid _:=hm;obtain ⟨X,hX⟩:∃X,cN zs va l n=X:=⟨_,rfl⟩;have HX:Hid (X=sJ [] (cN zs va l n)):=by show _=_;rw [←hX];rfl
 rw [hX];clear hX hB hm;have s0:Hid (((w.alloc (Obj.cells #[.int .i64 0,.int .u64 0,.slice none 0 0] 179)).alloc (Obj.cells #[.int .i64 l,.int .u64 0,.slice none 0 0] 179)).heap[w.heap.size+1]?=some (.cells #[.int .i64 l,.int .u64 0,.slice none 0 0] 179 (0,0))):=by
  have:=heap_alloc_new (w.alloc (Obj.cells #[.int .i64 0,.int .u64 0,.slice none 0 0] 179)) (Obj.cells #[.int .i64 l,.int .u64 0,.slice none 0 0] 179);simp only [World.size_alloc] at this;exact this
 have r0:Hid (((w.alloc (Obj.cells #[.int .i64 0,.int .u64 0,.slice none 0 0] 179)).alloc (Obj.cells #[.int .i64 l,.int .u64 0,.slice none 0 0] 179)).heap[w.heap.size]?=some (.cells #[.int .i64 0,.int .u64 0,.slice none 0 0] 179 (0,0))):=by
  show _=_;rw [heap_alloc_old _ _ (by simp)];exact heap_alloc_new w _
 have b0:Below w.heap.size w ((w.alloc (Obj.cells #[.int .i64 0,.int .u64 0,.slice none 0 0] 179)).alloc (Obj.cells #[.int .i64 l,.int .u64 0,.slice none 0 0] 179)):=((Below.refl w.heap.size w).alloc (Nat.le_refl _) _).alloc (by simp) _;go_enter Tryz.func141,Tryz.ntmps141;go_wp2_with fail;go_loopw [1] (fun tt wr=>∃(k:Nat) (n':Int) (ra:Option Addr) (rc:Nat) (acc:List ef),k≤l∧tt=.int .u64 n'∧0≤n'∧n'<17592186044416∧acc.length+k≤2∧wr.heap[w.heap.size+1]?=some (.cells #[.int .i64 k,.int .u64 0,.slice ra acc.length rc] 179 (0,0))∧
  wr.heap[w.heap.size]?=some (.cells #[.int .i64 0,.int .u64 0,.slice none 0 0] 179 (0,0))∧wr.ownsRow (w.heap.size+2) 90 3 (.slice ra acc.length rc) acc.length (cD acc)∧Hid (X=sJ acc (cN zs va k n'))∧Below w.heap.size w wr) (fun _ wr=>xF wr (w.heap.size+1))
 case atStart=>exact ⟨l,n,none,0,[],Nat.le_refl _,rfl,hn0,hn1,by simpa using hl,s0.out,r0.out,World.ownsRow_nil _ _ _ _,HX,b0⟩
 case round=>
  clear s0 r0 b0 HX hn0 hn1;obtain ⟨k,n',ra,rc,acc,hk,rfl,hn0,hn1,hac,hS,hR,hO,HX,hb⟩:=hrel;have HS:Hid (wr.heap[w.heap.size+1]?=some (.cells #[.int .i64 k,.int .u64 0,.slice ra acc.length rc] 179 (0,0))):=hS;have HR:Hid (wr.heap[w.heap.size]?=some (.cells #[.int .i64 0,.int .u64 0,.slice none 0 0] 179 (0,0))):=hR;have HO:Hid (wr.ownsRow (w.heap.size+2) 90 3 (.slice ra acc.length rc) acc.length (cD acc)):=hO;have hlt:w.heap.size+1<wr.heap.size:=(Array.getElem?_eq_some_iff.1 hS).1;have HM:Hid (xF wr (w.heap.size+1)=k):=by
   show _=_;rw [xF,(ao hS).1.1];rfl
  obtain ⟨⟨c0,c1,c2⟩,e0,e1,e2⟩:=ao hS;clear hS hR hO;obtain ⟨ix,hix⟩:∃ix,dA va (k:Int)=ix:=⟨_,rfl⟩;have hib:=oA va (k:Int);rw [hix] at hib;obtain ⟨rv,hrv⟩:∃rv,rdV zs (64*n'+8*ix) 8=rv:=⟨_,rfl⟩;have hrb:=nf zs (64*n'+8*ix) 8 (by omega) hzb;rw [hrv] at hrb;have HI:Hid (dA va (k:Int)=ix):=hix;have HV:Hid (rdV zs (64*n'+8*ix) 8=rv):=hrv;clear hix hrv;go_wp2_with fail;refine (uy n' k va wr hv0 hv1 (by omega) hn0 hn1).mono ?_;rintro e w' ⟨rfl,nq,rfl⟩;rw [HI.out];have HS1:Hid ((wr.drewN nq).heap[w.heap.size+1]?=some (.cells #[.int .i64 k,.int .u64 0,.slice ra acc.length rc] 179 (0,0))):=HS;have HR1:Hid ((wr.drewN nq).heap[w.heap.size]?=some (.cells #[.int .i64 0,.int .u64 0,.slice none 0 0] 179 (0,0))):=HR;have HO1:Hid ((wr.drewN nq).ownsRow (w.heap.size+2) 90 3 (.slice ra acc.length rc) acc.length (cD acc)):=HO;have hlt1:w.heap.size+1<(wr.drewN nq).heap.size:=hlt;have hb1:Below w.heap.size w (wr.drewN nq):=below_drewN hb nq;generalize wr.drewN nq=v1 at HS1 HR1 HO1 hlt1 hb1 ⊢;clear c0 c1 c2 e0 e1 e2 HS HR HO hlt hb;obtain ⟨⟨c0,c1,c2⟩,e0,e1,e2⟩:=ao HS1.out;obtain ⟨⟨d0,d1,d2⟩,f0,f1,f2⟩:=ao HR1.out;have hm:=HMt.out v1 hb1;cases hg:dM len (64*n'+8*ix) 8
  ·have HG:Hid (dM len (64*n'+8*ix) 8=false):=hg;clear hg;go_wp2_with fail;refine (wb a len cap (64*n'+8*ix) v1 hlen (by omega) (by omega) HG.out).mono ?_;rintro e w' ⟨rfl,rfl⟩;go_wp2_with fail;have hX:X=(3,(k:Int),0,acc):=by
    rw [HX.out,ts zs va k n' (by rw [hz,HI.out];exact HG.out)];simp [sJ]
   refine bodyPost_ret (v:=.tuple #[.agg #[.int .i64 k,.int .u64 0,.slice ra acc.length rc],.iface 176 (.agg #[])]) (by simp [results,Tryz.results141,go_sem,d0,d1,d2]) rfl ?_;rw [hX];exact ⟨⟨ra,rc,rfl,aT (bZ HO1.out (gb3 _ w.heap.size _ _ _) (by omega)) (by omega)⟩,eg hb1 (Nat.le_refl _) _ _ _⟩
  ·have HG:Hid (dM len (64*n'+8*ix) 8=true):=hg;clear hg;go_wp2_with fail;refine (xu a len cap zs (64*n'+8*ix) v1 (HB.out.keep hb1) hlen (by omega) (by omega) HG.out).mono ?_;rintro e w' ⟨rfl,rfl⟩;rw [HV.out];rcases mz rv (k:Int) with hkd | hkd | hkd
   ·have HK:Hid (bC rv (k:Int)=0):=hkd;clear hkd;go_wp2_with fail;refine (oM rv k _ hrb.1 hrb.2).mono ?_;rintro e w' ⟨rfl,rfl⟩;rw [HK.out];go_wp2_with fail;have hX:X=(2,(k:Int),0,acc):=by
     rw [HX.out,tu zs va k n' (by rw [hz,HI.out];exact HG.out) (by rw [HI.out,HV.out];exact HK.out)];simp [sJ]
    refine bodyPost_ret (v:=.tuple #[.agg #[.int .i64 k,.int .u64 0,.slice ra acc.length rc],.iface 167 (.agg #[])]) (by simp [results,Tryz.results141,go_sem,d0,d1,d2]) rfl ?_;rw [hX];exact ⟨⟨ra,rc,rfl,aT (bZ HO1.out (gb3 _ w.heap.size _ _ _) (by omega)) (by omega)⟩,eg hb1 (Nat.le_refl _) _ _ _⟩
   ·have HK:Hid (bC rv (k:Int)=1):=hkd;clear hkd;go_wp2_with fail;refine (oM rv k _ hrb.1 hrb.2).mono ?_;rintro e v3 ⟨rfl,rfl⟩;rw [HK.out];have n4:=(Below.refl v3.heap.size v3).alloc (Nat.le_refl _) (Obj.cells #[.int .i64 k,.int .u64 (64*n'+8*ix),.int .u64 rv] 90);have HS4:Hid ((v3.alloc (Obj.cells #[.int .i64 k,.int .u64 (64*n'+8*ix),.int .u64 rv] 90)).heap[w.heap.size+1]?=some (.cells #[.int .i64 k,.int .u64 0,.slice ra acc.length rc] 179 (0,0))):=ab HS1.out n4 hlt1;have HR4:Hid ((v3.alloc (Obj.cells #[.int .i64 k,.int .u64 (64*n'+8*ix),.int .u64 rv] 90)).heap[w.heap.size]?=some (.cells #[.int .i64 0,.int .u64 0,.slice none 0 0] 179 (0,0))):=ab HR1.out n4 (by omega);have HO4:Hid ((v3.alloc (Obj.cells #[.int .i64 k,.int .u64 (64*n'+8*ix),.int .u64 rv] 90)).ownsRow (w.heap.size+2) 90 3 (.slice ra acc.length rc) acc.length (cD acc)):=aj HO1.out n4;have HW4:Hid (RowC (v3.alloc (Obj.cells #[.int .i64 k,.int .u64 (64*n'+8*ix),.int .u64 rv] 90)) (some ⟨v3.heap.size,0,none⟩) 1 3 (cD [((k:Int),64*n'+8*ix,rv)])):=(OwnC.new 90 3 v3 (cD [((k:Int),64*n'+8*ix,rv)]) 1 (by rfl) (by decide)).row;have l4:v3.heap.size<(v3.alloc (Obj.cells #[.int .i64 k,.int .u64 (64*n'+8*ix),.int .u64 rv] 90)).heap.size:=by simp
    have b4:Below w.heap.size w (v3.alloc (Obj.cells #[.int .i64 k,.int .u64 (64*n'+8*ix),.int .u64 rv] 90)):=hb1.alloc (by omega) _;go_wp2_with (at_builtin;refine oX _ rfl (.tmp 43) (.tmp 49) 83 rfl 90 Tryz.underlying83 (.agg #[.int .i64 0,.int .u64 0,.int .u64 0]) 3 24 Tryz.infoRec rfl (by decide) (w.heap.size+2) acc.length _ (cD acc) rfl HO4.out v3.heap.size 0 1 1 (cD [((k:Int),64*n'+8*ix,rv)]) rfl (by omega) HW4.out (my _) (by omega) (by omega) (by omega) (w.heap.size+2) _ (Below.refl _ _) (Nat.le_refl _) ?_;intro g5 cp5 v5 o5 n5;have HO5:Hid (v5.ownsRow (w.heap.size+2) 90 3 (.slice (some ⟨g5,0,none⟩) (acc.length+1) cp5) (acc.length+1) (cD acc++cD [((k:Int),64*n'+8*ix,rv)])):=o5;have HS5:Hid (v5.heap[w.heap.size+1]?=some (.cells #[.int .i64 k,.int .u64 0,.slice ra acc.length rc] 179 (0,0))):=(n5.block _ (by omega)).trans HS4.out;have HR5:Hid (v5.heap[w.heap.size]?=some (.cells #[.int .i64 0,.int .u64 0,.slice none 0 0] 179 (0,0))):=(n5.block _ (by omega)).trans HR4.out;have b5:Below w.heap.size w v5:=b4.trans (n5.mono (by omega));have l5:=n5.size;clear c0 c1 c2 e0 e1 e2 d0 d1 d2 f0 f1 f2 o5;obtain ⟨⟨c0,c1,c2⟩,e0,e1,e2⟩:=ao HS5.out;obtain ⟨⟨d0,d1,d2⟩,f0,f1,f2⟩:=ao HR5.out;clear n5 n4 HS4 HR4 HO4 HW4 b4 HS1 HR1 HO1);have HS6:Hid ((v5.setCell ⟨w.heap.size+1,2,none⟩ (.slice (some ⟨g5,0,none⟩) (acc.length+1) cp5)).heap[w.heap.size+1]?=some (.cells #[.int .i64 k,.int .u64 0,.slice (some ⟨g5,0,none⟩) (acc.length+1) cp5] 179 (0,0))):=AF HS5.out;have m6:=ax (aE v5 (some (w.heap.size+1))) 2 (.slice (some ⟨g5,0,none⟩) (acc.length+1) cp5);have HR6:Hid ((v5.setCell ⟨w.heap.size+1,2,none⟩ (.slice (some ⟨g5,0,none⟩) (acc.length+1) cp5)).heap[w.heap.size]?=some (.cells #[.int .i64 0,.int .u64 0,.slice none 0 0] 179 (0,0))):=av HR5.out m6 (by omega);have HO6:Hid ((v5.setCell ⟨w.heap.size+1,2,none⟩ (.slice (some ⟨g5,0,none⟩) (acc.length+1) cp5)).ownsRow (w.heap.size+2) 90 3 (.slice (some ⟨g5,0,none⟩) (acc.length+1) cp5) (acc.length+1) (cD acc++cD [((k:Int),64*n'+8*ix,rv)])):=bZ HO5.out m6 (by omega);have b6:=b5.setCell (p:=⟨w.heap.size+1,2,none⟩) (by show w.heap.size≤w.heap.size+1;omega) (.slice (some ⟨g5,0,none⟩) (acc.length+1) cp5);refine (ud rv _ hrb.1 hrb.2).mono ?_;rintro e w' ⟨rfl,rfl⟩;generalize v5.setCell ⟨w.heap.size+1,2,none⟩ (.slice (some ⟨g5,0,none⟩) (acc.length+1) cp5)=v6 at HS6 HR6 HO6 b6 ⊢;clear c0 c1 c2 e0 e1 e2 d0 d1 d2 f0 f1 f2 m6 HS5 HR5 HO5 b5;obtain ⟨⟨c0,c1,c2⟩,e0,e1,e2⟩:=ao HS6.out;have hpb:=oD rv;obtain ⟨pp,hpp⟩:∃pp,dK rv=pp:=⟨_,rfl⟩;have HP:Hid (dK rv=pp):=hpp;rw [hpp] at hpb ⊢;clear hpp;obtain ⟨k',rfl⟩:∃k',k=k'+1:=by
     cases k with
     | zero=>exact absurd HK.out (iZ _)
     | succ k'=>exact ⟨k',rfl⟩
    go_wp2_with fail;go_roundw
    case rel=>
     refine ⟨k',pp,some ⟨g5,0,none⟩,cp5,acc++[(((k'+1:Nat):Int),64*n'+8*ix,rv)],by omega,rfl,hpb.1,hpb.2,by simp;omega,?_,?_,?_,?_,?_⟩
     ·rw [show (acc++[(((k'+1:Nat):Int),64*n'+8*ix,rv)]).length=acc.length+1 by simp,show ((k':Nat):Int)=((k'+1:Nat):Int)-1 by omega];exact AE HS6.out
     ·exact av HR6.out (ax (aE v6 (some (w.heap.size+1))) 0 _) (by omega)
     ·rw [show (acc++[(((k'+1:Nat):Int),64*n'+8*ix,rv)]).length=acc.length+1 by simp,kC];exact bZ HO6.out (ax (aE v6 (some (w.heap.size+1))) 0 _) (by omega)
     ·show _=_;rw [HX.out,rF zs va k' n' (by rw [hz,HI.out];exact HG.out) (by rw [HI.out,HV.out];exact HK.out),zu,HI.out,HV.out,HP.out]
     ·exact b6.setCell (p:=⟨w.heap.size+1,0,none⟩) (by show w.heap.size≤w.heap.size+1;omega) _
    case measure=>
     rw [HM.out,xF,(ao (AE HS6.out)).1.1];simp [intOf]
   ·have HK:Hid (bC rv (k:Int)=2):=hkd;clear hkd;go_wp2_with fail;refine (oM rv k _ hrb.1 hrb.2).mono ?_;rintro e v3 ⟨rfl,rfl⟩;rw [HK.out];have n4:=(Below.refl v3.heap.size v3).alloc (Nat.le_refl _) (Obj.cells #[.int .i64 k,.int .u64 (64*n'+8*ix),.int .u64 rv] 90);have HS4:Hid ((v3.alloc (Obj.cells #[.int .i64 k,.int .u64 (64*n'+8*ix),.int .u64 rv] 90)).heap[w.heap.size+1]?=some (.cells #[.int .i64 k,.int .u64 0,.slice ra acc.length rc] 179 (0,0))):=ab HS1.out n4 hlt1;have HR4:Hid ((v3.alloc (Obj.cells #[.int .i64 k,.int .u64 (64*n'+8*ix),.int .u64 rv] 90)).heap[w.heap.size]?=some (.cells #[.int .i64 0,.int .u64 0,.slice none 0 0] 179 (0,0))):=ab HR1.out n4 (by omega);have HO4:Hid ((v3.alloc (Obj.cells #[.int .i64 k,.int .u64 (64*n'+8*ix),.int .u64 rv] 90)).ownsRow (w.heap.size+2) 90 3 (.slice ra acc.length rc) acc.length (cD acc)):=aj HO1.out n4;have HW4:Hid (RowC (v3.alloc (Obj.cells #[.int .i64 k,.int .u64 (64*n'+8*ix),.int .u64 rv] 90)) (some ⟨v3.heap.size,0,none⟩) 1 3 (cD [((k:Int),64*n'+8*ix,rv)])):=(OwnC.new 90 3 v3 (cD [((k:Int),64*n'+8*ix,rv)]) 1 (by rfl) (by decide)).row;have l4:v3.heap.size<(v3.alloc (Obj.cells #[.int .i64 k,.int .u64 (64*n'+8*ix),.int .u64 rv] 90)).heap.size:=by simp
    have b4:Below w.heap.size w (v3.alloc (Obj.cells #[.int .i64 k,.int .u64 (64*n'+8*ix),.int .u64 rv] 90)):=hb1.alloc (by omega) _;go_wp2_with (at_builtin;refine oX _ rfl (.tmp 43) (.tmp 49) 83 rfl 90 Tryz.underlying83 (.agg #[.int .i64 0,.int .u64 0,.int .u64 0]) 3 24 Tryz.infoRec rfl (by decide) (w.heap.size+2) acc.length _ (cD acc) rfl HO4.out v3.heap.size 0 1 1 (cD [((k:Int),64*n'+8*ix,rv)]) rfl (by omega) HW4.out (my _) (by omega) (by omega) (by omega) (w.heap.size+2) _ (Below.refl _ _) (Nat.le_refl _) ?_;intro g5 cp5 v5 o5 n5;have HO5:Hid (v5.ownsRow (w.heap.size+2) 90 3 (.slice (some ⟨g5,0,none⟩) (acc.length+1) cp5) (acc.length+1) (cD acc++cD [((k:Int),64*n'+8*ix,rv)])):=o5;have HS5:Hid (v5.heap[w.heap.size+1]?=some (.cells #[.int .i64 k,.int .u64 0,.slice ra acc.length rc] 179 (0,0))):=(n5.block _ (by omega)).trans HS4.out;have HR5:Hid (v5.heap[w.heap.size]?=some (.cells #[.int .i64 0,.int .u64 0,.slice none 0 0] 179 (0,0))):=(n5.block _ (by omega)).trans HR4.out;have b5:Below w.heap.size w v5:=b4.trans (n5.mono (by omega));have l5:=n5.size;clear c0 c1 c2 e0 e1 e2 d0 d1 d2 f0 f1 f2 o5;obtain ⟨⟨c0,c1,c2⟩,e0,e1,e2⟩:=ao HS5.out;obtain ⟨⟨d0,d1,d2⟩,f0,f1,f2⟩:=ao HR5.out;clear n5 n4 HS4 HR4 HO4 HW4 b4 HS1 HR1 HO1);have hX:X=(1,(k:Int),rv,acc++[((k:Int),64*n'+8*ix,rv)]):=by
     rw [HX.out,rE zs va k n' (by rw [hz,HI.out];exact HG.out) (by rw [HI.out,HV.out];exact HK.out),HI.out,HV.out];rfl
    refine bodyPost_ret (v:=.tuple #[.agg #[.int .i64 k,.int .u64 rv,.slice (some ⟨g5,0,none⟩) (acc.length+1) cp5],.nilIface]) (by simp [results,Tryz.results141,go_sem,d0,d1,d2]) rfl ?_;rw [hX];refine ⟨⟨some ⟨g5,0,none⟩,cp5,?_,?_⟩,eg ((b5.setCell (p:=⟨w.heap.size+1,2,none⟩) (by show w.heap.size≤w.heap.size+1;omega) _).setCell (p:=⟨w.heap.size+1,1,none⟩) (by show w.heap.size≤w.heap.size+1;omega) _) (Nat.le_refl _) _ _ _⟩
    ·simp [cX]
    ·rw [show (acc++[((k:Int),64*n'+8*ix,rv)]).length=acc.length+1 by simp,kC];exact aT (bZ (bZ HO5.out (ax (ax (aE v5 (some (w.heap.size+1))) 2 _) 1 _) (by omega)) (gb3 _ w.heap.size _ _ _) (by omega)) (by omega)
end Go.Proofs.YtaoaifmkhbgaiaaGreat

namespace Go.Proofs.YtaoaifmkhbgaiaaGreat
set_option linter.unusedVariables false
theorem rV (va l:Int) (hl:l=0∨l=1∨l=2):0≤dt va l∧dt va l≤511:=by
 rcases hl with rfl | rfl | rfl <;> simp only [dt] <;> (try simp) <;> omega
theorem Ap {t:TlbM} {p:Bool} {va asid l:Int} {q:Nat} {x:EntM} (hv:aG t p=true) (hx:t.es[q]?=some x) (hh:fC va asid l x=true):(q:Int)/t.ways=dt va l%t.sets:=by
 have hp:=jT hv q x hx;simp only [fC,fz,Bool.and_eq_true,beq_iff_eq] at hh;obtain ⟨h1,⟨h2,h3⟩,_⟩:=hh;simp only [cx,Bool.or_eq_true,Bool.and_eq_true,beq_iff_eq] at hp;rcases hp with hp | hp
 ·rw [h2] at hp;simp at hp
 ·rw [←hp.2,h3,h1]
theorem vx {t:TlbM} {p:Bool} (hv:aG t p=true):(t.sets=1∨t.sets=2∨t.sets=4∨t.sets=8)∧1≤t.ways∧t.ways≤4∧(t.es.length:Int)=t.sets*t.ways:=ft hv
theorem uq {t:TlbM} {p:Bool} {va asid l:Int} {q f:Nat} {x:EntM} (hv:aG t p=true) (hx:t.es[q]?=some x) (hf:(f:Int)=dt va l%t.sets*t.ways) (hq:q<f∨(f:Int)+t.ways≤q):fC va asid l x=false:=by
 cases hh:fC va asid l x
 ·rfl
 ·exfalso;have h1:=Ap hv hx hh;obtain ⟨_,w1,w4,_⟩:=vx hv;rw [←h1] at hf;rcases (show t.ways=1∨t.ways=2∨t.ways=3∨t.ways=4 by omega) with hw | hw | hw | hw <;> rw [hw] at hf hq <;> omega
theorem yI {t:TlbM} {p:Bool} {va asid l:Int} {f:Nat} (hv:aG t p=true) (hf:(f:Int)=dt va l%t.sets*t.ways)
 (h:∀(j:Nat) x,(j:Int)<t.ways→t.es[f+j]?=some x→fC va asid l x=false):dk va asid l 0 t.es=none:=by
 refine ie va asid l t.es 0 (fun j x hx=>?_);by_cases h1:j<f
 ·exact uq hv hx hf (.inl h1)
 ·by_cases h2:(f:Int)+t.ways≤j
  ·exact uq hv hx hf (.inr h2)
  ·exact h (j-f) x (by omega) (by rw [show f+(j-f)=j by omega];exact hx)
theorem yJ {t:TlbM} {p:Bool} {va asid l:Int} {f k:Nat} {x:EntM} (hv:aG t p=true) (hf:(f:Int)=dt va l%t.sets*t.ways) (hx:t.es[f+k]?=some x) (hh:fC va asid l x=true)
 (h:∀(j:Nat) y,j<k→t.es[f+j]?=some y→fC va asid l y=false):dk va asid l 0 t.es=some (f+k,x):=by
 have:=kl va asid l t.es 0 (f+k) x hx hh (fun j y hj hy=>by
  by_cases h1:j<f
  ·exact uq hv hy hf (.inl h1)
  ·exact h (j-f) y (by omega) (by rw [show f+(j-f)=j by omega];exact hy))
 rw [Nat.zero_add] at this;exact this
theorem tH (va asid l:Int):∀(es:List EntM) (i k:Nat) (x:EntM),dk va asid l i es=some (k,x)→∃j,k=i+j∧es[j]?=some x∧fC va asid l x=true
 | [],i,k,x,h=>by cases h
 | e::r,i,k,x,h=>by
  rw [dk] at h;split at h
  ·rename_i hh;cases h;exact ⟨0,rfl,rfl,hh⟩
  ·obtain ⟨j,rfl,h2,h3⟩:=tH va asid l r (i+1) k x h;exact ⟨j+1,by omega,by simpa using h2,h3⟩
theorem kM (t:TlbM) (va asid:Int) (h:(aO t va asid).1=true):∃(k:Nat) (x:EntM),t.es[k]?=some x∧(aO t va asid).2.1=(k:Int)∧(aO t va asid).2.2.1=x.level∧(aO t va asid).2.2.2=x.pte∧fz x va asid=true∧x.valid=true:=by
 have key:∀(l:Int) (k:Nat) (x:EntM),dk va asid l 0 t.es=some (k,x)→t.es[k]?=some x∧l=x.level∧fz x va asid=true∧x.valid=true:=by
  intro l k x hf;obtain ⟨j,rfl,h2,h3⟩:=tH va asid l t.es 0 k x hf;simp only [fC,Bool.and_eq_true,beq_iff_eq] at h3;have hv:x.valid=true:=by
   have:=h3.2;simp only [fz,Bool.and_eq_true] at this;exact this.1.1
  exact ⟨by rw [Nat.zero_add];exact h2,h3.1.symm,h3.2,hv⟩
 unfold aO at h ⊢;split at h
 ·cases h
 ·rename_i he;rw [if_neg he];cases h0:dk va asid 0 0 t.es with
  | some y=>
   obtain ⟨k,x⟩:=y;obtain ⟨a1,a2,a3,a4⟩:=key 0 k x h0;exact ⟨k,x,a1,by simp [fF],by simp [fF,←a2],by simp [fF],a3,a4⟩
  | none=>
   cases h1:dk va asid 1 0 t.es with
   | some y=>
    obtain ⟨k,x⟩:=y;obtain ⟨a1,a2,a3,a4⟩:=key 1 k x h1;exact ⟨k,x,a1,by simp [fF],by simp [fF,←a2],by simp [fF],a3,a4⟩
   | none=>
    cases h2:dk va asid 2 0 t.es with
    | some y=>
     obtain ⟨k,x⟩:=y;obtain ⟨a1,a2,a3,a4⟩:=key 2 k x h2;exact ⟨k,x,a1,by simp [fF],by simp [fF,←a2],by simp [fF],a3,a4⟩
    | none=>
     rw [h0,h1,h2] at h;simp [fF] at h
theorem rW {t:TlbM} {va asid i l pt:Int} (h:aO t va asid=(false,i,l,pt)):(i,l,pt)=(0,0,0):=by
 unfold aO at h;split at h
 ·cases h;rfl
 ·cases h0:dk va asid 0 0 t.es with
  | some y=>simp [h0,fF] at h
  | none=>
   cases h1:dk va asid 1 0 t.es with
   | some y=>simp [h0,h1,fF] at h
   | none=>
    cases h2:dk va asid 2 0 t.es with
    | some y=>simp [h0,h1,h2,fF] at h
    | none=>
     simp [h0,h1,h2,fF] at h;obtain ⟨rfl,rfl,rfl⟩:=h;rfl
end Go.Proofs.YtaoaifmkhbgaiaaGreat

namespace Go.Proofs.YtaoaifmkhbgaiaaGreat
set_option linter.unusedVariables false
def qo (r:Int × Int × Int × List ef) (k:Nat) (ps:List ef):Prop:=
 (∀p∈ps,bC p.2.2 p.1=1∧0≤p.1∧p.1≤k∧0≤p.2.2∧p.2.2≤18446744073709551615)∧
 ((r.1=1∧(∃ad,r.2.2.2=ps++[(r.2.1,ad,r.2.2.1)])∧bC r.2.2.1 r.2.1=2∧0≤r.2.1∧r.2.1≤k∧0≤r.2.2.1∧r.2.2.1≤18446744073709551615)∨((r.1=2∨r.1=3)∧r.2.2.2=ps∧r.2.2.1=0))
theorem wP (level:Int):bC 0 level≠2:=by
 unfold bC;split
 ·decide
 ·simp [bK];split <;> omega
theorem lM (zs:List Int) (va:Int) (hz:∀i:Nat,0≤zs[i]?.getD 0∧zs[i]?.getD 0≤255):∀(k:Nat) (n:Int),∃ps,qo (cN zs va k n) k ps∧ps.length≤k
 | k,n=>by
  cases hg:dM zs.length (64*n+8*dA va k) 8
  ·rw [ts zs va k n hg];exact ⟨[],⟨by simp,.inr ⟨.inr rfl,rfl,rfl⟩⟩,by simp⟩
  ·have hb:=nf zs (64*n+8*dA va k) 8 (by omega) hz;rcases mz (rdV zs (64*n+8*dA va k) 8) (k:Int) with hk | hk | hk
   ·rw [tu zs va k n hg hk];exact ⟨[],⟨by simp,.inr ⟨.inl rfl,rfl,rfl⟩⟩,by simp⟩
   ·cases k with
    | zero=>exact absurd hk (iZ _)
    | succ k'=>
     rw [rF zs va k' n hg hk];obtain ⟨ps,⟨h1,h2⟩,h3⟩:=lM zs va hz k' (dK (rdV zs (64*n+8*dA va ((k'+1:Nat):Int)) 8));refine ⟨(((k'+1:Nat):Int),64*n+8*dA va ((k'+1:Nat):Int),rdV zs (64*n+8*dA va ((k'+1:Nat):Int)) 8)::ps,⟨?_,?_⟩,by simp;omega⟩
     ·intro p hp;rcases List.mem_cons.1 hp with rfl | hp
      ·exact ⟨hk,by simp only;omega,by simp only;omega,hb.1,hb.2⟩
      ·obtain ⟨q1,q2,q3,q4⟩:=h1 p hp;exact ⟨q1,q2,by omega,q4⟩
     ·simp only [sJ];rcases h2 with ⟨e1,⟨ad,e2⟩,e3,e4,e5,e6⟩ | ⟨e1,e2,e3⟩
      ·exact .inl ⟨e1,⟨ad,by rw [e2];rfl⟩,e3,e4,by omega,e6⟩
      ·exact .inr ⟨e1,by rw [e2];rfl,e3⟩
   ·rw [rE zs va k n hg hk];exact ⟨[],⟨by simp,.inl ⟨rfl,⟨_,rfl⟩,hk,by simp only;omega,Int.le_refl _,hb.1,hb.2⟩⟩,by simp⟩
theorem uY (zs:List Int) (root va:Int) (hz:∀i:Nat,0≤zs[i]?.getD 0∧zs[i]?.getD 0≤255):∃ps,qo (bV zs root va) 2 ps∧ps.length≤2:=by
 unfold bV;split
 ·exact ⟨[],⟨by simp,.inr ⟨.inl rfl,rfl,rfl⟩⟩,by simp⟩
 ·exact lM zs va hz 2 _
theorem wQ {r:Int × Int × Int × List ef} {k k':Nat} {ps:List ef} (h:qo r k ps) (hk:k≤k'):qo r k' ps:=by
 obtain ⟨h1,h2⟩:=h;refine ⟨fun p hp=>?_,?_⟩
 ·obtain ⟨q1,q2,q3,q4⟩:=h1 p hp;exact ⟨q1,q2,by omega,q4⟩
 ·rcases h2 with ⟨e1,e2,e3,e4,e5,e6⟩ | h2
  ·exact .inl ⟨e1,e2,e3,e4,by omega,e6⟩
  ·exact .inr h2
theorem mR (zs:List Int) (satp va:Int) (t:TlbM) (asid:Int) (ht:aG t true=true) (hz:∀i:Nat,0≤zs[i]?.getD 0∧zs[i]?.getD 0≤255):∃ps,qo (aW zs satp va (aO t va asid)) 2 ps∧ps.length≤2:=by
 unfold aW;split
 ·rename_i hf;obtain ⟨q,x,h1,h2,h3,h4,h5,h6⟩:=kM t va asid hf;have hl:=dX (dO ht) q x h1 h6;have hle:((aO t va asid).2.2.1-1).toNat≤2:=by rw [h3];omega
  obtain ⟨ps,a1,a2⟩:=lM zs va hz ((aO t va asid).2.2.1-1).toNat (dK (aO t va asid).2.2.2);exact ⟨ps,wQ a1 hle,by omega⟩
 ·exact uY zs satp va hz
theorem jr (va satp pick:Int):∀(a b:List ef) (p:TlbM),cE va satp pick (a++b) p=cE va satp pick b (cE va satp pick a p)
 | [],b,p=>rfl
 | r::a,b,p=>by
  rw [List.cons_append,cE,cE];exact jr va satp pick a b _
theorem fk (t:TlbM) (e:EntM) (pick:Int):(cz t e pick).es.length=t.es.length∧(cz t e pick).sets=t.sets∧(cz t e pick).ways=t.ways:=by
 unfold cz;split
 ·simp
 ·exact ⟨rfl,rfl,rfl⟩
theorem iY (va satp pick:Int):∀(rs:List ef) (p:TlbM),(cE va satp pick rs p).es.length=p.es.length∧(cE va satp pick rs p).sets=p.sets∧(cE va satp pick rs p).ways=p.ways
 | [],p=>⟨rfl,rfl,rfl⟩
 | r::rs,p=>by
  rw [cE];have ih:=iY va satp pick rs (if bC r.2.2 r.1=1 then cz p (et r.1 va satp r.2.2) pick else p);split at ih
  ·rename_i hk;rw [if_pos hk];have h:=fk p (et r.1 va satp r.2.2) pick;exact ⟨ih.1.trans h.1,ih.2.1.trans h.2.1,ih.2.2.trans h.2.2⟩
  ·rename_i hk;rw [if_neg hk];exact ih
theorem wS {r:Int × Int × Int × List ef} {k:Nat} {ps:List ef} (va satp pick:Int) (p:TlbM) (h:qo r k ps):cE va satp pick r.2.2.2 p=cE va satp pick ps p:=by
 rcases h.2 with ⟨_,⟨ad,e⟩,hk,_⟩ | ⟨_,e,_⟩
 ·rw [e,jr];rw [cE,cE,if_neg (by simp only;omega)]
 ·rw [e]
end Go.Proofs.YtaoaifmkhbgaiaaGreat

namespace Go.Proofs.YtaoaifmkhbgaiaaGreat
theorem qR (t:TlbM) (va asid:Int) (he:∀e∈t.es,dq e) (h:(aO t va asid).1=true):(0≤(aO t va asid).2.2.2∧(aO t va asid).2.2.2≤18446744073709551615)∧(-9223372036854775808≤(aO t va asid).2.2.1∧(aO t va asid).2.2.1≤9223372036854775807):=by
 obtain ⟨k,x,hx,_,hl,hp,_⟩:=kM t va asid h;have hk:=he x (List.mem_of_getElem? hx);rw [hl,hp];exact ⟨hk.2.2.2,hk.1⟩
end Go.Proofs.YtaoaifmkhbgaiaaGreat

namespace Go.Proofs.YtaoaifmkhbgaiaaGreat
set_option linter.unusedVariables false
theorem tC (zs:List Int) (root va:Int):(bV zs root va).2.2.2.length≤3:=by
 unfold bV;split
 ·simp
 ·exact mF zs va 2 _
structure WalkLim (r:Int × Int × Int × List ef):Prop where
 len:r.2.2.2.length≤3
 pte:0≤r.2.2.1∧r.2.2.1≤18446744073709551615
 level:0≤r.2.1∧r.2.1≤2
 recs:∀x∈r.2.2.2,(0≤x.1∧x.1≤2)∧0≤x.2.2∧x.2.2≤18446744073709551615
theorem rO {r:Int × Int × Int × List ef} {ps:List ef} (h:qo r 2 ps):∀x∈r.2.2.2,(0≤x.1∧x.1≤2)∧0≤x.2.2∧x.2.2≤18446744073709551615:=by
 obtain ⟨h1,h2⟩:=h;intro x hx;rcases h2 with ⟨_,⟨ad,e⟩,_,e4,e5,e6,e7⟩ | ⟨_,e,_⟩
 ·rw [e] at hx;rcases List.mem_append.1 hx with hx | hx
  ·obtain ⟨_,q2,q3,q4,q5⟩:=h1 x hx;exact ⟨⟨q2,by omega⟩,q4,q5⟩
  ·have:x=(r.2.1,ad,r.2.2.1):=by simpa using hx
   subst this;exact ⟨⟨e4,by omega⟩,e6,e7⟩
 ·rw [e] at hx;obtain ⟨_,q2,q3,q4,q5⟩:=h1 x hx;exact ⟨⟨q2,by omega⟩,q4,q5⟩
theorem oU (zs:List Int) (satp va:Int) (t:TlbM) (asid:Int) (ht:aG t true=true) (he:∀e∈t.es,dq e) (hz:∀i:Nat,0≤zs[i]?.getD 0∧zs[i]?.getD 0≤255):
 ((aO t va asid).1=true→∃l:Nat,(aO t va asid).2.2.1=(l:Int)+1∧l≤1∧0≤(aO t va asid).2.2.2∧(aO t va asid).2.2.2≤18446744073709551615∧aW zs satp va (aO t va asid)=cN zs va l (dK (aO t va asid).2.2.2))∧
 ((aO t va asid).1=false→aW zs satp va (aO t va asid)=bV zs satp va)∧WalkLim (aW zs satp va (aO t va asid)):=by
 obtain ⟨ps,hs,_⟩:=mR zs satp va t asid ht hz;cases hf:(aO t va asid).1
 ·have e:aW zs satp va (aO t va asid)=bV zs satp va:=by rw [aW,if_neg (by rw [hf];simp)]
  have hb:=rK zs satp va hz;refine ⟨fun h=>(by cases h),fun _=>e,?_⟩;have hr:=rO hs;rw [e] at hr ⊢;exact ⟨tC zs satp va,⟨hb.1,hb.2.1⟩,hb.2.2,hr⟩
 ·obtain ⟨q,x,h1,h2,h3,h4,h5,h6⟩:=kM t va asid hf;have hl:=dX (dO ht) q x h1 h6;have hpl:=jT ht q x h1;have hlim:=(qR t va asid he hf).1;have hk1:x.level≠0:=by
   intro h0;have hg:aS x true=true:=by
    simp only [cx,Bool.or_eq_true,Bool.and_eq_true] at hpl;have h7:aS x true=true∧x.tag%t.sets=q/t.ways:=by simpa [h6] using hpl
    exact h7.1
   have:=yK hg;rw [h0] at this;exact iZ _ this
  have e:aW zs satp va (aO t va asid)=cN zs va ((aO t va asid).2.2.1-1).toNat (dK (aO t va asid).2.2.2):=by rw [aW,if_pos hf]
  have hb:=rJ zs va hz ((aO t va asid).2.2.1-1).toNat (dK (aO t va asid).2.2.2) (by rw [h3];omega);refine ⟨fun _=>⟨((aO t va asid).2.2.1-1).toNat,by rw [h3];omega,by rw [h3];omega,hlim.1,hlim.2,e⟩,fun h=>(by cases h),?_⟩;have hr:=rO hs;have hln:=mF zs va ((aO t va asid).2.2.1-1).toNat (dK (aO t va asid).2.2.2);rw [e] at hr ⊢;exact ⟨by rw [h3] at hln ⊢;omega,⟨hb.1,hb.2.1⟩,hb.2.2,hr⟩
end Go.Proofs.YtaoaifmkhbgaiaaGreat

namespace Go.Proofs.YtaoaifmkhbgaiaaGreat
open Go.RowKit
set_option linter.unusedVariables false
attribute [local go_sem ↓] Go.wp_at_zero Go.wp_at_succ
theorem Tryz.infoEnt:(Tryz.prog.info? 62).map (fun i=>(i.zero,i.size,i.bytes))=some (some (.agg #[.bool false,.int .i64 0,.int .u64 0,.int .u64 0,.bool false,.int .u64 0]),6,48):=by kernel_rfl
theorem mw:∀es:List EntM,∀u∈aL es,u.oneCell'=true
 | [],u,h=>by simp [aL] at h
 | e::r,u,h=>by
  simp only [aL,List.mem_append] at h;rcases h with h | h
  ·simp [jn] at h;rcases h with rfl | rfl | rfl | rfl | rfl | rfl <;> rfl
  ·exact mw r u h
def TlbOwn (base:Nat) (w:World) (v:Value) (t:TlbM):Prop:=
 ∃g cap,v=.agg #[.int .i64 t.sets,.int .i64 t.ways,.slice (some ⟨g,0,none⟩) t.es.length cap]∧w.ownsRow base 62 6 (.slice (some ⟨g,0,none⟩) t.es.length cap) t.es.length (aL t.es)
set_option maxRecDepth 20000 in
set_option maxHeartbeats 1600000 in
theorem gx (v:Value) (t:TlbM) (w:World) (h:TlbAt w v t):
 Calls Tryz.prog 76 #[v] w fun e w'=>(∃x,e=.returned x∧TlbOwn w.heap.size w' x t)∧Below w.heap.size w w':=by
 have HT:Hid (TlbAt w v t):=h;obtain ⟨a,cap,rfl,hr,_,_,_,hl,hlc,hcm,hnil,hsp⟩:=h;obtain ⟨sets,ways,es⟩:=t;obtain ⟨n,hn⟩:∃n,es.length=n:=⟨_,rfl⟩;simp only at hr hl hlc hnil ⊢;rw [hn] at hr hl hlc hnil ⊢;have n1:=((Below.refl w.heap.size w).alloc (Nat.le_refl _) (Obj.cells #[.int .i64 sets,.int .i64 ways,.slice a n cap] 28)).alloc (by simp) (Obj.cells #[.int .i64 0,.int .i64 0,.slice none 0 0] 28);have HR1:Hid (RowC ((w.alloc (Obj.cells #[.int .i64 sets,.int .i64 ways,.slice a n cap] 28)).alloc (Obj.cells #[.int .i64 0,.int .i64 0,.slice none 0 0] 28)) a n 6 (aL es)):=hr.keep n1;have H1:Hid (((w.alloc (Obj.cells #[.int .i64 sets,.int .i64 ways,.slice a n cap] 28)).alloc (Obj.cells #[.int .i64 0,.int .i64 0,.slice none 0 0] 28)).heap[w.heap.size]?=some (.cells #[.int .i64 sets,.int .i64 ways,.slice a n cap] 28 (0,0))):=by
  show _=_;rw [heap_alloc_old _ _ (by simp)];exact heap_alloc_new w _
 have H2:Hid (((w.alloc (Obj.cells #[.int .i64 sets,.int .i64 ways,.slice a n cap] 28)).alloc (Obj.cells #[.int .i64 0,.int .i64 0,.slice none 0 0] 28)).heap[w.heap.size+1]?=some (.cells #[.int .i64 0,.int .i64 0,.slice none 0 0] 28 (0,0))):=by
  have:=heap_alloc_new (w.alloc (Obj.cells #[.int .i64 sets,.int .i64 ways,.slice a n cap] 28)) (Obj.cells #[.int .i64 0,.int .i64 0,.slice none 0 0] 28);simp only [World.size_alloc] at this;exact this
 have l1:w.heap.size+1<((w.alloc (Obj.cells #[.int .i64 sets,.int .i64 ways,.slice a n cap] 28)).alloc (Obj.cells #[.int .i64 0,.int .i64 0,.slice none 0 0] 28)).heap.size:=by simp
 have HN:Hid (a=none→n=0∧cap=0):=hnil;have HSp:Hid (∀q,a=some q→q.spot=none):=hsp;clear hr hnil hsp HT;go_enter Tryz.func76,Tryz.ntmps76;go_wp2_with fail;generalize ((w.alloc (Obj.cells #[.int .i64 sets,.int .i64 ways,.slice a n cap] 28)).alloc (Obj.cells #[.int .i64 0,.int .i64 0,.slice none 0 0] 28))=v1 at n1 HR1 H1 H2 l1 ⊢;obtain ⟨⟨c0,c1,c2⟩,_,_,_⟩:=ao H1.out;obtain ⟨⟨d0,d1,d2⟩,e0,e1,e2⟩:=ao H2.out;have ne1:v1.heap.size≠w.heap.size:=by omega
 have ne2:w.heap.size≠v1.heap.size:=by omega
 have ne3:v1.heap.size≠w.heap.size+1:=by omega
 have ne4:w.heap.size+1≠v1.heap.size:=by omega
 have n2:Below v1.heap.size v1 (v1.alloc (Obj.cells #[] 62)).drew:=((Below.refl v1.heap.size v1).alloc (Nat.le_refl _) (Obj.cells #[] 62)).drew;go_region_held3 (fun w'=>w'.cell? ⟨w.heap.size,0,none⟩=some (.int .i64 sets)∧w'.cell? ⟨w.heap.size,1,none⟩=some (.int .i64 ways)∧w'.cell? ⟨w.heap.size,2,none⟩=some (.slice a n cap)) (go_keep)
  (first
   | (refine mQ _ (by rfl) (.tmp 7) (.tmp 9) 26 (by rfl) 62 Tryz.underlying26 (.agg #[.bool false,.int .i64 0,.int .u64 0,.int .u64 0,.bool false,.int .u64 0]) 6 48 Tryz.infoEnt (by rfl) (by decide) v1.heap.size v1.heap.size 0 0 [] (by rfl) (OwnC.new 62 6 v1.drew [] 0 (by rfl) (by decide)) a n cap (aL es) (by rfl) HN.out HSp.out (RowC.keep HR1.out n2) (mw es) (by omega) (by omega) v1.heap.size v1 n2 (Nat.le_refl _) ?_;intro g3 c3 v3 o3 n3;have k1:=ao (ab H1.out n3 (by omega));have k2:=ao (ab H2.out n3 l1);obtain ⟨⟨q0,q1,q2⟩,_,_,_⟩:=k1;obtain ⟨⟨j0,j1,j2⟩,i0,i1,i2⟩:=k2;have l3:=n3.size;have O3:Hid (OwnC 62 6 v3 v1.heap.size g3 (0+n) c3 ([]++aL es)):=o3;clear o3))
 go_wp2_with fail;have O4:v3.ownsRow v1.heap.size 62 6 (.slice (some ⟨g3,0,none⟩) n c3) n (aL es):=by
  have:=O3.out;rw [Nat.zero_add,List.nil_append] at this;exact this
 refine bodyPost_ret (v:=.agg #[.int .i64 sets,.int .i64 ways,.slice (some ⟨g3,0,none⟩) n c3]) (by simp [results,Tryz.results76,go_sem,j0,j1,j2]) rfl ⟨⟨_,rfl,g3,c3,by rw [hn],?_⟩,eg (Below.step n1 n3 (Nat.le_refl _)) (by omega) _ _ _⟩;rw [hn];exact aT (bZ O4 (gb3 v3 (w.heap.size+1) _ _ _) l1) (by omega)
theorem TlbOwn.row {base:Nat} {w:World} {v:Value} {t:TlbM} (h:TlbOwn base w v t):∃g cap,v=.agg #[.int .i64 t.sets,.int .i64 t.ways,.slice (some ⟨g,0,none⟩) t.es.length cap]∧RowC w (some ⟨g,0,none⟩) t.es.length 6 (aL t.es)∧base≤g∧g<w.heap.size:=by
 obtain ⟨g,cap,rfl,ho⟩:=h;have:=bI ho;exact ⟨g,cap,rfl,en ho,this.2.1,this.2.2⟩
theorem TlbOwn.keep {base:Nat} {w w':World} {v:Value} {t:TlbM} (h:TlbOwn base w v t) (hb:Below w.heap.size w w'):TlbOwn base w' v t:=by
 obtain ⟨g,cap,rfl,ho⟩:=h;exact ⟨g,cap,rfl,aj ho hb⟩
def ex (t:TlbM):Prop:=
 (∀e∈t.es,dq e)∧(-9223372036854775808≤t.sets∧t.sets≤9223372036854775807)∧(-9223372036854775808≤t.ways∧t.ways≤9223372036854775807)∧t.es.length≤1048576
theorem TlbAt.ok {w:World} {v:Value} {t:TlbM} (h:TlbAt w v t):ex t:=by
 obtain ⟨a,cap,_,_,h1,h2,h3,h4,_⟩:=h;exact ⟨h1,h2,h3,h4⟩
theorem TlbOwn.at {base:Nat} {w:World} {v:Value} {t:TlbM} (h:TlbOwn base w v t) (hk:ex t):TlbAt w v t:=by
 obtain ⟨g,cap,rfl,ho⟩:=h;have hr:=en ho;rcases ho.2 with ⟨h2,_⟩ | ⟨g',cap',cur,h2,hb,hg,hc1,hc2,_⟩
 ·cases h2
 ·cases h2;exact ⟨some ⟨g,0,none⟩,cap,rfl,hr,hk.1,hk.2.1,hk.2.2.1,hk.2.2.2,hc1,by unfold maxLen at hc2;omega,(by intro h;cases h),(by intro q hq;cases hq;rfl)⟩
end Go.Proofs.YtaoaifmkhbgaiaaGreat
