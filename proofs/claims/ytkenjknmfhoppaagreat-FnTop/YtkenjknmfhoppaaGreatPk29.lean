import Derived.Test.YtkenjknmfhoppaaGreatPk28
namespace Go.Proofs.YtkenjknmfhoppaaGreat
open Go.RowKit
set_option linter.unusedVariables false
set_option maxHeartbeats 6400000
set_option maxRecDepth 20000
theorem OwnB.put {e:TypeId} {w:World} {base g n cap:Nat} {zs:List Int} (h:OwnB e w base g n cap zs) (i:Nat) (y:Int):OwnB e (w.setCell (AD g i) (.int .u8 y)) base g n cap (zs.set i y):=by
 unfold OwnB;rw [List.map_set];exact bu h i (.int .u8 y)
def yz (f:Nat->Int):List Int:=
 let (o,k1):=eD f 25 0
 if o then (oD f (cf f 200 k1).1.toNat (cf f 200 k1).2).1
 else
  let (b,k3):=(s0 f).run k1 [] []
  let (o2,k4):=eD f 12 k3
  if o2 then b.set (cf f b.length k4).1.toNat (f (cf f b.length k4).2) else b
def sT (code:List Int):List Int:=yz (rO code (mS code (54321+(code.length:Int))))
def Hy (w:World) (zs:List Int) (e:Ending) (w':World):Prop:=∃g nn cp:Nat,e=.returned (SL g nn cp)∧OwnB 5 w' w.heap.size g nn cp zs∧(∀i:Nat,0<=zs[i]?.getD 0∧zs[i]?.getD 0<=255)∧nn<=20000∧Bw w w'
theorem EK (a:Option Addr) (len cap:Nat) (code:List Int) (w:World) (hB:Byt w a len code) (hl:len<=1048576):
 Calls Tryz.prog 25 #[.slice a len cap] w (Hy w (sT code)):=by
 have CN:=Hl a len cap code w hB hl;rw [sT,hB.1];generalize rO code (mS code (54321+(len:Int)))=f at *;obtain ⟨X,hX⟩:∃X,yz f=X:=⟨_,rfl⟩;have HX:=hid hX;rw [hX];clear hX;clear hB hl;go_enter Tryz.func25,Tryz.ntmps25;go_wp2_with fail;refine CN.mono ?_;rintro e v1 ⟨rfl,cu,n1⟩;have hp:=cu.lt;have HBd:=hid cu.bd;generalize hpe:w.heap.size=p at *;have HPE:=hid hpe;clear hpe CN;go_wp2_with fail;refine (ig p f 0 25 v1 cu (by omega) (by omega)).mono ?_;rintro e v2 ⟨o,k1,e1,rfl,d2⟩;have E1:=hid e1;clear e1;cases o
 ·go_wp2_with fail;refine (AK p f _ v2 ⟨d2.1.lt,k1,DrewN.refl d2.1,rfl⟩).mono ?_;rintro e v3 ⟨g,nn,cp,hn,rfl,_,k3,zs,S,rs,t⟩;have E3:Hid ((s0 f).run k1 [] []=(zs,k3)):=t.symm;clear t;have D:=d2.trans S.d;go_wp2_with fail;refine (ig p f k3 12 v3 S.d.1 (by omega) (by omega)).mono ?_;rintro e v4 ⟨o2,k4,e4,rfl,d4⟩;have E4:=hid e4;clear e4;have s2:=d2.2.size;have hg:=S.o.facts;have o4:=S.o.gb d4.2 (by omega);have hzl:=S.l;have HZb:=hid S.b;replace D:=D.trans d4;have s4:=d4.2.size;clear S d2;cases o2
  ·have oF:=OwnB.low o4 (show p<=v2.heap.size by omega);have nF:Below p w v4:=Below.gb n1 D.2 (Nat.le_refl _) hp;go_wp2;go_ret;obtain rfl:zs=X:=by rw [<-HX.out];simp only [yz,E1.out,E3.out,E4.out,Bool.false_eq_true,↓reduceIte]
   exact ⟨g,nn,cp,rfl,by rw [HPE.out];exact oF,HZb.out,hn.2,by unfold Bw;rw [HPE.out];exact nF⟩
  ·go_wp2_with fail;refine (fX p f k4 nn v4 d4.1 (by omega) (by omega)).mono ?_;rintro e v5 ⟨i,k5,e5,hi,rfl,d5⟩;have E5:=hid e5;clear e5;go_wp2_with fail;refine (jK p f k5 v5 d5.1).mono ?_;rintro e v6 ⟨rfl,d6⟩;have by6:=HBd.out k5;have o6:=(o4.gb d5.2 (by omega)).gb d6.2 (by omega);replace D:=(D.trans d5).trans d6;obtain ⟨ii,rfl⟩:∃ii:Nat,i=ii:=⟨i.toNat,by omega⟩;have hii:ii<zs.length:=by omega
   have c6:=aM o6 ii _ (show (zs.map (Value.int .u8))[ii]?=some (.int .u8 zs[ii]) by simp [geg hii]);have r6:=bQ o6 ii;have l6:=o6.facts.2.2.1;have oN:=o6.put ii (f k5);have gS:=au (ak v6 (some g)) ii (.int .u8 (f k5));have nF:Below p w v6:=Below.gb n1 D.2 (Nat.le_refl _) hp;have nG:Below p w (v6.setCell (AD g ii) (.int .u8 (f k5))):=Below.gb nF gS (by omega) l6;have HOF:=hid (OwnB.low oN (show p<=v2.heap.size by omega));have HBF:Hid (∀j:Nat,0<=(zs.set ii (f k5))[j]?.getD 0∧(zs.set ii (f k5))[j]?.getD 0<=255):=dc fun y hy=>by
    rcases List.mem_or_eq_of_mem_set hy with h | h
    ·exact dW HZb.out y h
    ·rw [h];exact by6
   clear oN o6 o4;have HXX:Hid (zs.set ii (f k5)=X):=by show _=_;rw [<-HX.out];simp only [yz,E1.out,E3.out,E4.out,hzl,E5.out,Bool.false_eq_true,↓reduceIte,Int.toNat_natCast]
   clear E1 E3 E4 E5 HX;generalize f k5=fy at *;generalize zs[ii]=zo at c6;go_wp2;go_ret;exact ⟨g,nn,cp,rfl,by rw [HPE.out,<-HXX.out];exact HOF.out,by rw [<-HXX.out];exact HBF.out,hn.2,by unfold Bw;rw [HPE.out];exact nG⟩
 ·go_wp2_with fail;refine (fX p f k1 200 v2 d2.1 (by omega) (by omega)).mono ?_;rintro e v3 ⟨n,k3,e3,hn,rfl,d3⟩;have E3:=hid e3;clear e3;obtain ⟨nn,rfl⟩:∃nn:Nat,n=nn:=⟨n.toNat,by omega⟩;have D:=d2.trans d3;go_wp2_with fail;refine (BG p f k3 nn v3 d3.1 (by omega)).mono ?_;rintro e v4 ⟨g,cp,rfl,o4,d4⟩;replace D:=D.trans d4;have s3:v1.heap.size<=v3.heap.size:=(d2.trans d3).2.size;have oF:=OwnB.low o4 (show p<=v3.heap.size by omega);have nF:Below p w v4:=Below.gb n1 D.2 (Nat.le_refl _) hp;have bF:∀j:Nat,0<=(oD f nn k3).1[j]?.getD 0∧(oD f nn k3).1[j]?.getD 0<=255:=by
   refine dc fun y hy=>?_;simp only [oD,List.mem_map] at hy;obtain ⟨j,_,rfl⟩:=hy;exact HBd.out _
  clear o4;go_wp2;go_ret;obtain rfl:(oD f nn k3).1=X:=by rw [<-HX.out];simp only [yz,E1.out,E3.out,↓reduceIte,Int.toNat_natCast]
  exact ⟨g,nn,cp,rfl,by rw [HPE.out];exact oF,bF,by omega,by unfold Bw;rw [HPE.out];exact nF⟩
theorem C6 (a:Option Addr) (len cap:Nat) (code:List Int) (w:World) (hB:Byt w a len code) (hl:len<=1048576):
 Calls Tryz.prog 8 #[.slice a len cap] w (Hy w (sT code)):=by
 have C:=EK a len cap code w hB hl;go_enter Tryz.func8,Tryz.ntmps8;go_wp2_with fail;refine C.mono ?_;rintro e v ⟨g,nn,cp,rfl,h⟩;go_wp2;go_ret;exact ⟨g,nn,cp,rfl,h⟩
end Go.Proofs.YtkenjknmfhoppaaGreat
