import Derived.Test.YtkenjknmfhoppaaGreatSk26
namespace Go.Proofs.YtkenjknmfhoppaaGreat
open Go.RowKit
set_option linter.unusedVariables false
set_option maxHeartbeats 6400000
set_option maxRecDepth 20000
def mC:List Int->Int->Int
 | [],h=>h
 | c::r,h=>mC r (bits BinOp.and IntKind.i64 (h*131+c+7) 1073741823)
theorem EH (a:Option Addr) (len cap:Nat) (zs:List Int) (w:World) (h:Byt w a len zs) (hl:len<=1048576):
 Calls Tryz.prog 63 #[.slice a len cap] w fun e w'=>
  e=.returned (PT w.heap.size 0)∧CurN w' w.heap.size (rt zs (mC zs (54321+(len:Int)))) 0∧Below w.heap.size w w':=by
 have HB:Hid (Byt w a len zs):=h;obtain ⟨h1,h2,h3⟩:=h;have HZ:Hid (∀(k:Nat) (hk:k<len) (x:Int),mC (zs.drop k) x=mC (zs.drop (k+1)) (bits BinOp.and IntKind.i64 (x*131+zs[k]?.getD 0+7) 1073741823)):=fun k hk x=>by
  rw [List.drop_eq_getElem_cons (show k<zs.length by omega),mC,geg (show k<zs.length by omega)];rfl
 obtain ⟨X,hX⟩:∃X,mC zs (54321+(len:Int))=X:=⟨_,rfl⟩;have HX:Hid _:=hX;rw [hX];go_enter Tryz.func63,Tryz.ntmps63;go_wp2
 go_loop [3,4] (fun hh i=>∃(x:Int) (k:Nat),k<=len∧(0<=x∧x<=1073741823)∧hh=VI x∧i=VI k∧mC (zs.drop k) x=X) (fun _ i=>len-(intOf i).toNat)
 case atStart=>exact ⟨_,0,Nat.zero_le _,by omega,rfl,rfl,by rw [List.drop_zero];exact HX.out⟩
 case round=>
  obtain ⟨x,k,hk,bx,rfl,rfl,hs⟩:=hrel;have HS:Hid _:=hs;clear hs;by_cases hlt:k<len
  ·rcases h3 with h3 | ⟨b,off,rfl,hbw,hc⟩
   ·omega
   have g1:=hc k hlt;have g4:=h2 k;have HQ:=HZ.out k hlt x;obtain ⟨z,hz⟩:∃z,zs[k]?.getD 0=z:=⟨_,rfl⟩;rw [hz] at g1 g4 HQ;have HN:Hid (mC (zs.drop (k+1)) (bits BinOp.and IntKind.i64 (x*131+z+7) 1073741823)=X):=by
    show _=_;rw [<-HQ,HS.out]
   have bN:=kJ (x*131+z+7) 1073741823 (by omega) (by omega);clear hc h2 HQ hz;go_wp2
   go_round
   case rel=>exact ⟨_,k+1,by omega,bN,rfl,by go_num,HN.out⟩
   case measure=>simp [intOf];omega
  ·have HA:Hid (0<len->∀x,a=some x->x.block<w.heap.size):=by
    intro hp y hy;rcases h3 with h3 | ⟨b,off,rfl,hbw,hc⟩
    ·omega
    ·cases hy;exact hbw
   have hx:x=X:=by
    rw [<-HS.out,List.drop_of_length_le (by omega),mC]
   subst hx;clear h2 h3;go_wp2;go_ret;have n1:=(Below.refl w.heap.size w).alloc (Nat.le_refl _) (Obj.cells #[Value.slice a len cap,VI 0,VI x] 191);exact ⟨rfl,⟨a,len,cap,zs,x,rfl,by rw [Nat.zero_min];exact er _ _,HB.out.keep n1,HA.out,hl⟩,n1⟩
theorem OwnB.put {e:TypeId} {w:World} {base g n cap:Nat} {zs:List Int} (h:OwnB e w base g n cap zs) (i:Nat) (y:Int):OwnB e (w.setCell (AD g i) (.int .u8 y)) base g n cap (zs.set i y):=by
 unfold OwnB;rw [List.map_set];exact aF h i (.int .u8 y)
def xz (f:Nat->Int):List Int:=
 let (o,k1):=eu f 25 0
 if o then (nU f (bT f 200 k1).1.toNat (bT f 200 k1).2).1
 else
  let (b,k3):=(s0 f).run k1 [] []
  let (o2,k4):=eu f 12 k3
  if o2 then b.set (bT f b.length k4).1.toNat (f (bT f b.length k4).2) else b
def Ac (code:List Int):List Int:=xz (rt code (mC code (54321+(code.length:Int))))
def ER (w:World) (zs:List Int) (e:Ending) (w':World):Prop:=∃g nn cp:Nat,e=.returned (SL g nn cp)∧OwnB 5 w' w.heap.size g nn cp zs∧(∀i:Nat,0<=zs[i]?.getD 0∧zs[i]?.getD 0<=255)∧nn<=20000∧Bw w w'
theorem Cv (a:Option Addr) (len cap:Nat) (code:List Int) (w:World) (hB:Byt w a len code) (hl:len<=1048576):
 Calls Tryz.prog 25 #[.slice a len cap] w (ER w (Ac code)):=by
 have CN:=EH a len cap code w hB hl;rw [Ac,hB.1];generalize rt code (mC code (54321+(len:Int)))=f at *;obtain ⟨X,hX⟩:∃X,xz f=X:=⟨_,rfl⟩;have HX:=hid hX;rw [hX];clear hX;clear hB hl;go_enter Tryz.func25,Tryz.ntmps25;go_wp2_with fail;refine CN.mono ?_;rintro e v1 ⟨rfl,cu,n1⟩;have hp:=cu.lt;have HBd:=hid cu.bd;generalize hpe:w.heap.size=p at *;have HPE:=hid hpe;clear hpe CN;go_wp2_with fail;refine (ij p f 0 25 v1 cu (by omega) (by omega)).mono ?_;rintro e v2 ⟨o,k1,e1,rfl,d2⟩;have E1:=hid e1;clear e1;cases o
 ·go_wp2_with fail;refine (zw p f _ v2 ⟨d2.1.lt,k1,DrewN.refl d2.1,rfl⟩).mono ?_;rintro e v3 ⟨g,nn,cp,hn,rfl,_,k3,zs,S,rs,t⟩;have E3:Hid ((s0 f).run k1 [] []=(zs,k3)):=t.symm;clear t;have D:=d2.trans S.d;go_wp2_with fail;refine (ij p f k3 12 v3 S.d.1 (by omega) (by omega)).mono ?_;rintro e v4 ⟨o2,k4,e4,rfl,d4⟩;have E4:=hid e4;clear e4;have s2:=d2.2.size;have hg:=S.o.facts;have o4:=S.o.gb d4.2 (by omega);have hzl:=S.l;have HZb:=hid S.b;replace D:=D.trans d4;have s4:=d4.2.size;clear S d2;cases o2
  ·have oF:=OwnB.low o4 (show p<=v2.heap.size by omega);have nF:Below p w v4:=Below.gb n1 D.2 (Nat.le_refl _) hp;go_wp2;go_ret;obtain rfl:zs=X:=by rw [<-HX.out];simp only [xz,E1.out,E3.out,E4.out,Bool.false_eq_true,↓reduceIte]
   exact ⟨g,nn,cp,rfl,by rw [HPE.out];exact oF,HZb.out,hn.2,by unfold Bw;rw [HPE.out];exact nF⟩
  ·go_wp2_with fail;refine (gv p f k4 nn v4 d4.1 (by omega) (by omega)).mono ?_;rintro e v5 ⟨i,k5,e5,hi,rfl,d5⟩;have E5:=hid e5;clear e5;go_wp2_with fail;refine (jy p f k5 v5 d5.1).mono ?_;rintro e v6 ⟨rfl,d6⟩;have by6:=HBd.out k5;have o6:=(o4.gb d5.2 (by omega)).gb d6.2 (by omega);replace D:=(D.trans d5).trans d6;obtain ⟨ii,rfl⟩:∃ii:Nat,i=ii:=⟨i.toNat,by omega⟩;have hii:ii<zs.length:=by omega
   have c6:=aE o6 ii _ (show (zs.map (Value.int .u8))[ii]?=some (.int .u8 zs[ii]) by simp [geg hii]);have r6:=aQ o6 ii;have l6:=o6.facts.2.2.1;have oN:=o6.put ii (f k5);have gS:=aq (aw v6 (some g)) ii (.int .u8 (f k5));have nF:Below p w v6:=Below.gb n1 D.2 (Nat.le_refl _) hp;have nG:Below p w (v6.setCell (AD g ii) (.int .u8 (f k5))):=Below.gb nF gS (by omega) l6;have HOF:=hid (OwnB.low oN (show p<=v2.heap.size by omega));have HBF:Hid (∀j:Nat,0<=(zs.set ii (f k5))[j]?.getD 0∧(zs.set ii (f k5))[j]?.getD 0<=255):=df fun y hy=>by
    rcases List.mem_or_eq_of_mem_set hy with h | h
    ·exact dP HZb.out y h
    ·rw [h];exact by6
   clear oN o6 o4;have HXX:Hid (zs.set ii (f k5)=X):=by show _=_;rw [<-HX.out];simp only [xz,E1.out,E3.out,E4.out,hzl,E5.out,Bool.false_eq_true,↓reduceIte,Int.toNat_natCast]
   clear E1 E3 E4 E5 HX;generalize f k5=fy at *;generalize zs[ii]=zo at c6;go_wp2;go_ret;exact ⟨g,nn,cp,rfl,by rw [HPE.out,<-HXX.out];exact HOF.out,by rw [<-HXX.out];exact HBF.out,hn.2,by unfold Bw;rw [HPE.out];exact nG⟩
 ·go_wp2_with fail;refine (gv p f k1 200 v2 d2.1 (by omega) (by omega)).mono ?_;rintro e v3 ⟨n,k3,e3,hn,rfl,d3⟩;have E3:=hid e3;clear e3;obtain ⟨nn,rfl⟩:∃nn:Nat,n=nn:=⟨n.toNat,by omega⟩;have D:=d2.trans d3;go_wp2_with fail;refine (Af p f k3 nn v3 d3.1 (by omega)).mono ?_;rintro e v4 ⟨g,cp,rfl,o4,d4⟩;replace D:=D.trans d4;have s3:v1.heap.size<=v3.heap.size:=(d2.trans d3).2.size;have oF:=OwnB.low o4 (show p<=v3.heap.size by omega);have nF:Below p w v4:=Below.gb n1 D.2 (Nat.le_refl _) hp;have bF:∀j:Nat,0<=(nU f nn k3).1[j]?.getD 0∧(nU f nn k3).1[j]?.getD 0<=255:=by
   refine df fun y hy=>?_;simp only [nU,List.mem_map] at hy;obtain ⟨j,_,rfl⟩:=hy;exact HBd.out _
  clear o4;go_wp2;go_ret;obtain rfl:(nU f nn k3).1=X:=by rw [<-HX.out];simp only [xz,E1.out,E3.out,↓reduceIte,Int.toNat_natCast]
  exact ⟨g,nn,cp,rfl,by rw [HPE.out];exact oF,bF,by omega,by unfold Bw;rw [HPE.out];exact nF⟩
theorem AZ (a:Option Addr) (len cap:Nat) (code:List Int) (w:World) (hB:Byt w a len code) (hl:len<=1048576):
 Calls Tryz.prog 8 #[.slice a len cap] w (ER w (Ac code)):=by
 have C:=Cv a len cap code w hB hl;go_enter Tryz.func8,Tryz.ntmps8;go_wp2_with fail;refine C.mono ?_;rintro e v ⟨g,nn,cp,rfl,h⟩;go_wp2;go_ret;exact ⟨g,nn,cp,rfl,h⟩
end Go.Proofs.YtkenjknmfhoppaaGreat
