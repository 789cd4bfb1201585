import Derived.Deep.DeepCutAuto
import Derived.Test.YthekickjjaleaaaGreatPack02
import Derived.Test.YthekickjjaleaaaGreatPack01
import Derived.Deep.RegionHeld3
import Derived.Deep.DrawnRows
namespace Go.Proofs.YthekickjjaleaaaGreat
open Go.RowKit
set_option linter.unusedVariables false
def gf (f:Nat→Int) (user:Bool) (k:Nat):Int × Nat:=
 let a0:Int:=if user then 223 else 207
 let (b,k1):=jU f 5 k
 let a1:Int:=if b then bits .or .u64 a0 32 else a0
 let (c,k2):=jU f 3 k1
 let (d,k3):=ee f 8 k2
 if c then (bits .xor .u64 a1 (IntKind.u64.wrap (2^d.toNat)),k3) else (a1,k2)
theorem uQ (user b:Bool) (d:Int) (h0:0≤d) (h1:d<8):
 (0≤(if b then bits .or .u64 (if user then 223 else 207) 32 else (if user then 223 else 207):Int)∧(if b then bits .or .u64 (if user then 223 else 207) 32 else (if user then 223 else 207):Int)≤255)∧
 (0≤bits .xor .u64 (if b then bits .or .u64 (if user then 223 else 207) 32 else (if user then 223 else 207)) (IntKind.u64.wrap (2^d.toNat))∧bits .xor .u64 (if b then bits .or .u64 (if user then 223 else 207) 32 else (if user then 223 else 207)) (IntKind.u64.wrap (2^d.toNat))≤255):=by
 have hd:d=0∨d=1∨d=2∨d=3∨d=4∨d=5∨d=6∨d=7:=by omega
 rcases hd with rfl | rfl | rfl | rfl | rfl | rfl | rfl | rfl <;> cases user <;> cases b <;> decide
theorem ua {f:Nat→Int} {user:Bool} {k:Nat}:0≤(gf f user k).1∧(gf f user k).1≤255:=by
 rcases e1:jU f 5 k with ⟨b,k1⟩;rcases e2:jU f 3 k1 with ⟨c,k2⟩;rcases e3:ee f 8 k2 with ⟨d,k3⟩;have h8:=qc (f:=f) (n:=8) (k:=k2) (by omega);rw [e3] at h8;have hv:=uQ user b d h8.1 h8.2;simp only [gf,e1,e2,e3];cases c
 ·exact hv.1
 ·exact hv.2
set_option maxHeartbeats 800000 in
theorem ik (p:Nat) (f:Nat→Int) (k:Nat) (user:Bool) (w:World) (h:CurN w p f k):
 Calls Tryz.prog 121 #[.pointer (some ⟨p,0,none⟩),.bool user] w fun e w'=>∃x k',gf f user k=(x,k')∧(0≤x∧x≤255)∧e=.returned (.int .u64 x)∧DrewN w p f k' w':=by
 have HBd:Hid (∀x k',gf f user k=(x,k')→gf f user k=(x,k')∧(0≤x∧x≤255)):=fun x k' e=>⟨e,by have:=ua (f:=f) (user:=user) (k:=k);rw [e] at this;exact this⟩;obtain ⟨a0,ha0⟩:∃a0:Int,(if user then 223 else 207)=a0:=⟨_,rfl⟩;have HA0:Hid _:=ha0;clear ha0;go_enter Tryz.func121,Tryz.ntmps121;go_upto_if 7 with fail;go_cut [5] (fun s wx=>s=.int .u64 a0∧wx=w)
 case first=>
  cases user
  ·go_wp2_with fail;go_meet
   case rel=>exact ⟨by rw [←HA0.out];rfl,rfl⟩
  ·go_wp2_with fail;go_meet
   case rel=>exact ⟨by rw [←HA0.out];rfl,rfl⟩
 case rest=>
 obtain ⟨rfl,rfl⟩:=hcut;go_wp2_with fail;refine (dt p f k 5 _ h (by omega) (by omega)).mono ?_;rintro e v1 ⟨b,k1,e1,rfl,d1⟩;have E1:Hid _:=e1;clear e1;obtain ⟨a1,ha1⟩:∃a1:Int,(if b then bits .or .u64 a0 32 else a0)=a1:=⟨_,rfl⟩;have HA1:Hid _:=ha1;clear ha1;go_upto_if 11 with fail;go_cut [5] (fun s wx=>s=.int .u64 a1∧wx=v1)
 case first=>
  cases b
  ·go_wp2_with fail;go_meet
   case rel=>exact ⟨by rw [←HA1.out];rfl,rfl⟩
  ·go_wp2_with fail;go_meet
   case rel=>exact ⟨by rw [←HA1.out];rfl,rfl⟩
 case rest=>
 obtain ⟨rfl,rfl⟩:=hcut;go_wp2_with fail;refine (dt p f k1 3 _ d1.1 (by omega) (by omega)).mono ?_;rintro e v2 ⟨c,k2,e2,rfl,d2⟩;have E2:Hid _:=e2;have d12:=d1.trans d2;clear e2 d1 d2;obtain ⟨⟨d,k3⟩,e3⟩:∃X,ee f 8 k2=X:=⟨_,rfl⟩;have E3:Hid _:=e3;clear e3;cases c
 ·go_wp2_with fail;go_ret;obtain ⟨q1,q2⟩:=HBd.out _ _ (by simp only [gf,HA0.out,E1.out,HA1.out,E2.out,E3.out];rfl);exact ⟨_,_,q1,q2,rfl,d12⟩
 ·go_wp2_with fail;refine (bD p f k2 8 _ d12.1 (by omega) (by omega)).mono ?_;rintro e v3 ⟨d',k3',e4,hd,rfl,d3⟩;rw [E3.out] at e4;obtain ⟨rfl,rfl⟩:d=d'∧k3=k3':=by simpa using e4
  have d13:=d12.trans d3;clear d12 d3 e4;have hsh:0≤d∧d<64:=by omega
  go_wp2_with fail;go_ret;obtain ⟨q1,q2⟩:=HBd.out _ _ (by simp only [gf,HA0.out,E1.out,HA1.out,E2.out,E3.out];rfl);exact ⟨_,_,q1,q2,rfl,d13⟩
def sG (f:Nat→Int) (k:Nat):Int × Nat:=
 let (a,k1):=ee f 10 k
 let (n,k2):=ee f 64 k1
 if a=0 then rK f k2
 else if a<3 then
  let (x,k3):=rK f k2
  (bits .and .u64 x 18014398509481983,k3)
 else if a<5 then (n*1024+1,k2)
 else if a=5 then
  let (x,k3):=gf f false k2
  (n*8192+x,k3)
 else if a=6 then
  let (x,k3):=gf f true k2
  (n*65536+x,k3)
 else
  let (u,k3):=jU f 2 k2
  let (x,k4):=gf f u k3
  (n*1024+x,k4)
theorem aT (op:BinOp) (x y:Int):0≤bits op .u64 x y∧bits op .u64 x y≤18446744073709551615:=by
 unfold bits;exact aL _
set_option maxHeartbeats 800000 in
theorem vY (p:Nat) (f:Nat→Int) (k:Nat) (w:World) (h:CurN w p f k):
 Calls Tryz.prog 187 #[.pointer (some ⟨p,0,none⟩)] w fun e w'=>∃x k',sG f k=(x,k')∧(0≤x∧x≤18446744073709551615)∧e=.returned (.int .u64 x)∧DrewN w p f k' w':=by
 go_enter Tryz.func187,Tryz.ntmps187;go_wp2_with fail;refine (bD p f k 10 w h (by omega) (by omega)).mono ?_;rintro e v1 ⟨a,k1,e1,ha,rfl,d1⟩;have E1:Hid _:=e1;clear e1;go_wp2_with fail;refine (bD p f k1 64 _ d1.1 (by omega) (by omega)).mono ?_;rintro e v2 ⟨n,k2,e2,hn,rfl,d2⟩;have E2:Hid _:=e2;have d12:=d1.trans d2;clear e2 d1 d2;by_cases c0:a=0
 ·subst c0;go_wp2_with fail;refine (kP p f k2 _ d12.1).mono ?_;rintro e v3 ⟨x,k3,e3,hx,rfl,d3⟩;have E3:Hid _:=e3;have d13:=d12.trans d3;clear e3 d12 d3;go_wp2_with fail;go_ret;exact ⟨x,k3,by simp [sG,E1.out,E2.out,E3.out],hx,rfl,d13⟩
 have c0':(a == 0)=false:=by simpa using c0
 by_cases c1:a<3
 ·go_wp2_with fail;refine (kP p f k2 _ d12.1).mono ?_;rintro e v3 ⟨x,k3,e3,hx,rfl,d3⟩;have E3:Hid _:=e3;have d13:=d12.trans d3;clear e3 d12 d3;go_wp2_with fail;go_ret;exact ⟨_,k3,by simp only [sG,E1.out,E2.out,E3.out];rw [if_neg (by omega),if_pos (by omega)],aT _ _ _,rfl,d13⟩
 by_cases c2:a<5
 ·go_wp2_with fail;go_ret;exact ⟨n*1024+1,k2,by simp only [sG,E1.out,E2.out];rw [if_neg (by omega),if_neg (by omega),if_pos (by omega)],by omega,rfl,d12⟩
 by_cases c3:a=5
 ·subst c3;go_wp2_with fail;refine (ik p f k2 false _ d12.1).mono ?_;rintro e v3 ⟨x,k3,e3,hx,rfl,d3⟩;have E3:Hid _:=e3;have d13:=d12.trans d3;clear e3 d12 d3;go_wp2_with fail;go_ret;exact ⟨n*8192+x,k3,by simp [sG,E1.out,E2.out,E3.out],by omega,rfl,d13⟩
 have c3':(a == 5)=false:=by simpa using c3
 by_cases c4:a=6
 ·subst c4;go_wp2_with fail;refine (ik p f k2 true _ d12.1).mono ?_;rintro e v3 ⟨x,k3,e3,hx,rfl,d3⟩;have E3:Hid _:=e3;have d13:=d12.trans d3;clear e3 d12 d3;go_wp2_with fail;go_ret;exact ⟨n*65536+x,k3,by simp [sG,E1.out,E2.out,E3.out],by omega,rfl,d13⟩
 have c4':(a == 6)=false:=by simpa using c4
 go_wp2_with fail;refine (dt p f k2 2 _ d12.1 (by omega) (by omega)).mono ?_;rintro e v3 ⟨u,k3,e3,rfl,d3⟩;have E3:Hid _:=e3;have d13:=d12.trans d3;clear e3 d12 d3;go_wp2_with fail;refine (ik p f k3 u _ d13.1).mono ?_;rintro e v4 ⟨x,k4,e4,hx,rfl,d4⟩;have E4:Hid _:=e4;have d14:=d13.trans d4;clear e4 d13 d4;go_wp2_with fail;go_ret;exact ⟨n*1024+x,k4,by simp only [sG,E1.out,E2.out,E3.out,E4.out];rw [if_neg (by omega),if_neg (by omega),if_neg (by omega),if_neg (by omega),if_neg (by omega)],by omega,rfl,d14⟩
def vaX (f:Nat→Int) (k:Nat):Int × Nat:=
 let (a,k1):=ee f 10 k
 let (x,k2):=ee f 16384 k1
 if a=0 then rK f k2
 else if a=1 then (x+16384,k2)
 else if a=2 then (IntKind.u64.wrap (-x),k2)
 else (x,k2)
set_option maxHeartbeats 800000 in
theorem uR (p:Nat) (f:Nat→Int) (k:Nat) (w:World) (h:CurN w p f k):
 Calls Tryz.prog 120 #[.pointer (some ⟨p,0,none⟩)] w fun e w'=>∃x k',vaX f k=(x,k')∧(0≤x∧x≤18446744073709551615)∧e=.returned (.int .u64 x)∧DrewN w p f k' w':=by
 go_enter Tryz.func120,Tryz.ntmps120;go_wp2_with fail;refine (bD p f k 10 w h (by omega) (by omega)).mono ?_;rintro e v1 ⟨a,k1,e1,ha,rfl,d1⟩;have E1:Hid _:=e1;clear e1;go_wp2_with fail;refine (bD p f k1 16384 _ d1.1 (by omega) (by omega)).mono ?_;rintro e v2 ⟨n,k2,e2,hn,rfl,d2⟩;have E2:Hid _:=e2;have d12:=d1.trans d2;clear e2 d1 d2;by_cases c0:a=0
 ·subst c0;go_wp2_with fail;refine (kP p f k2 _ d12.1).mono ?_;rintro e v3 ⟨x,k3,e3,hx,rfl,d3⟩;have E3:Hid _:=e3;have d13:=d12.trans d3;clear e3 d12 d3;go_wp2_with fail;go_ret;exact ⟨x,k3,by simp [vaX,E1.out,E2.out,E3.out],hx,rfl,d13⟩
 have c0':(a == 0)=false:=by simpa using c0
 by_cases c1:a=1
 ·subst c1;go_wp2_with fail;go_ret;exact ⟨n+16384,k2,by simp [vaX,E1.out,E2.out],by omega,rfl,d12⟩
 have c1':(a == 1)=false:=by simpa using c1
 by_cases c2:a=2
 ·subst c2;go_wp2_with fail;go_ret;exact ⟨IntKind.u64.wrap (-n),k2,by simp [vaX,E1.out,E2.out],aL _,rfl,d12⟩
 have c2':(a == 2)=false:=by simpa using c2
 go_wp2_with fail;go_ret;exact ⟨n,k2,by simp only [vaX,E1.out,E2.out];rw [if_neg (by omega),if_neg (by omega),if_neg (by omega)],by omega,rfl,d12⟩
end Go.Proofs.YthekickjjaleaaaGreat

namespace Go.Proofs.YthekickjjaleaaaGreat
open Go.RowKit
set_option linter.unusedVariables false
def wP (f:Nat→Int) (page:Int) (k:Nat):Int × Nat:=
 let (a,k1):=jU f 12 k
 let (b,k2):=jU f 40 k1
 let (c,k3):=jU f 40 k2
 (page*1024+1+(if a then 32 else 0)-(if b then 1 else 0)+(if c then 64 else 0),k3)
set_option maxHeartbeats 800000 in
theorem we (p:Nat) (f:Nat→Int) (k:Nat) (page:Int) (w:World) (h:CurN w p f k) (h0:0≤page) (h1:page≤1000):
 Calls Tryz.prog 191 #[.pointer (some ⟨p,0,none⟩),.int .i64 page] w fun e w'=>∃x k',wP f page k=(x,k')∧(0≤x∧x≤2000000)∧e=.returned (.int .u64 x)∧DrewN w p f k' w':=by
 go_enter Tryz.func191,Tryz.ntmps191;go_wp2_with fail;refine (dt p f k 12 _ h (by omega) (by omega)).mono ?_;rintro e v1 ⟨a,k1,e1,rfl,d1⟩;have E1:Hid _:=e1;clear e1;obtain ⟨x1,hx1⟩:∃x1:Int,page*1024+1+(if a then 32 else 0)=x1:=⟨_,rfl⟩;have HX1:Hid _:=hx1;have b1:1≤x1∧x1≤1100000:=by rw [←hx1];split <;> omega
 clear hx1;go_upto_if 11 with fail;go_cut [5] (fun s wx=>s=.int .u64 x1∧wx=v1)
 case first=>
  cases a
  ·go_wp2_with fail;go_meet
   case rel=>exact ⟨by rw [←HX1.out];simp,rfl⟩
  ·go_wp2_with fail;go_meet
   case rel=>exact ⟨by rw [←HX1.out];simp,rfl⟩
 case rest=>
 obtain ⟨rfl,rfl⟩:=hcut;go_wp2_with fail;refine (dt p f k1 40 _ d1.1 (by omega) (by omega)).mono ?_;rintro e v2 ⟨b,k2,e2,rfl,d2⟩;have E2:Hid _:=e2;have d12:=d1.trans d2;clear e2 d1 d2;obtain ⟨x2,hx2⟩:∃x2:Int,x1-(if b then 1 else 0)=x2:=⟨_,rfl⟩;have HX2:Hid _:=hx2;have b2:0≤x2∧x2≤1100000:=by rw [←hx2];split <;> omega
 clear hx2;go_upto_if 15 with fail;go_cut [5] (fun s wx=>s=.int .u64 x2∧wx=v2)
 case first=>
  cases b
  ·go_wp2_with fail;go_meet
   case rel=>exact ⟨by rw [←HX2.out];simp,rfl⟩
  ·go_wp2_with fail;go_meet
   case rel=>exact ⟨by rw [←HX2.out];rfl,rfl⟩
 case rest=>
 obtain ⟨rfl,rfl⟩:=hcut;go_wp2_with fail;refine (dt p f k2 40 _ d12.1 (by omega) (by omega)).mono ?_;rintro e v3 ⟨c,k3,e3,rfl,d3⟩;have E3:Hid _:=e3;have d13:=d12.trans d3;clear e3 d12 d3;cases c
 ·go_wp2_with fail;go_ret;exact ⟨x2,k3,by simp only [wP,E1.out,E2.out,E3.out,HX1.out,HX2.out];simp,by omega,rfl,d13⟩
 ·go_wp2_with fail;go_ret;exact ⟨x2+64,k3,by simp only [wP,E1.out,E2.out,E3.out,HX1.out,HX2.out];simp,by omega,rfl,d13⟩
def iZ (asid root:Int):Int:=9223372036854775808+asid*17592186044416+root
theorem lQ (asid root:Int) (w:World) (h0:0≤asid) (h1:asid≤1000) (h2:0≤root) (h3:root≤1000):
 Calls Tryz.prog 65 #[.int .i64 asid,.int .i64 root] w fun e w'=>e=.returned (.int .u64 (iZ asid root))∧w'=w:=by
 have P1:Hid (∀u,Calls Tryz.prog 84 #[.int .i64 60] u fun e w'=>e=.returned (.int .u64 1152921504606846976)∧w'=u):=fun u=>aV 60 1152921504606846976 u (by omega) (by decide);have P2:Hid (∀u,Calls Tryz.prog 84 #[.int .i64 44] u fun e w'=>e=.returned (.int .u64 17592186044416)∧w'=u):=fun u=>aV 44 17592186044416 u (by omega) (by decide);go_enter Tryz.func65,Tryz.ntmps65;go_wp2_with fail;refine (P1.out w).mono ?_;rintro e _ ⟨rfl,rfl⟩;go_wp2_with fail;refine (P2.out _).mono ?_;rintro e _ ⟨rfl,rfl⟩;go_wp2_with fail;go_ret;exact ⟨rfl,rfl⟩
def sK (op a b c imm:Int):List Int:=[op,a+8*b,c,bits .and .i64 imm 255]
theorem nZ (op a b c imm:Int) (w:World) (h1:0≤op∧op≤255) (h2:0≤a∧a≤7) (h3:0≤b∧b≤7) (h4:0≤c∧c≤255):
 Calls Tryz.prog 188 #[.int .i64 op,.int .i64 a,.int .i64 b,.int .i64 c,.int .i64 imm] w fun e w'=>∃g,e=.returned (.slice (some ⟨g,0,none⟩) 4 4)∧OwnB 5 w' w.heap.size g 4 4 (sK op a b c imm)∧Below w.heap.size w w':=by
 obtain ⟨m,hm⟩:∃m,bits .and .i64 imm 255=m:=⟨_,rfl⟩;have bm:0≤m∧m≤255:=by rw [←hm];exact iH imm 255 (by omega) (by omega)
 have o:=OwnB.new 5 w [op,a+8*b,c,m] 4 rfl (by decide);have n:=(Below.refl w.heap.size w).alloc (Nat.le_refl _) (Obj.cells #[.int .u8 op,.int .u8 (a+8*b),.int .u8 c,.int .u8 m] 5);have HM:Hid (sK op a b c imm=[op,a+8*b,c,m]):=by show _=_;rw [sK,hm]
 rw [HM.out];clear HM;go_enter Tryz.func188,Tryz.ntmps188;go_wp2_with fail;go_ret;exact ⟨_,rfl,o,n⟩
def kL (a:Int) (zs:List Int):List Int:=[a%256,a/256,(zs.length:Int)]++zs
set_option maxHeartbeats 800000 in
theorem pX (a:Int) (b off n cap:Nat) (zs:List Int) (w:World) (h:Byt w (some ⟨b,off,none⟩) n zs) (hn:n≤255) (h0:0≤a) (h1:a≤65535):
 Calls Tryz.prog 189 #[.int .i64 a,.slice (some ⟨b,off,none⟩) n cap] w fun e w'=>∃g c,e=.returned (.slice (some ⟨g,0,none⟩) (3+n) c)∧OwnB 5 w' w.heap.size g (3+n) c (kL a zs)∧Below w.heap.size w w':=by
 obtain ⟨x,hx⟩:∃x,a%256=x:=⟨_,rfl⟩;obtain ⟨y,hy⟩:∃y,a/256=y:=⟨_,rfl⟩;have bx:0≤x∧x≤255:=by omega
 have yb:0≤y∧y≤255:=by omega
 have o:=OwnB.new 5 w [x,y,(n:Int)] 3 rfl (by decide);have m:=(Below.refl w.heap.size w).alloc (Nat.le_refl _) (Obj.cells #[.int .u8 x,.int .u8 y,.int .u8 n] 5);have HB:Hid _:=h.keep m;have HX:Hid (kL a zs=[x,y,(n:Int)]++zs):=by show _=_;rw [kL,hx,hy,h.1]
 rw [HX.out];clear h HX;go_enter Tryz.func189,Tryz.ntmps189;go_wp2_with (at_builtin;refine eg _ rfl (.tmp 14) (.tmp 15) 22 rfl 5 Tryz.underlying22 Tryz.infoB w.heap.size w.heap.size 3 3 [x,y,(n:Int)] rfl o b off n cap zs rfl HB.out (by omega) w.heap.size w m (Nat.le_refl _) ?_;intro g4 cp4 v4 o4 n4;clear o m);go_ret;exact ⟨g4,cp4,rfl,o4,n4⟩
def ub (page index pte:Int):List Int:=kL (64*page+8*index) (dK pte 8)
theorem pI (page index pte:Int) (w:World) (h1:0≤page∧page≤63) (h2:0≤index∧index≤7) (h3:0≤pte∧pte≤18446744073709551615):
 Calls Tryz.prog 190 #[.int .i64 page,.int .i64 index,.int .u64 pte] w fun e w'=>∃g c,e=.returned (.slice (some ⟨g,0,none⟩) 11 c)∧OwnB 5 w' w.heap.size g 11 c (ub page index pte)∧Below w.heap.size w w':=by
 have HB:Hid (∀i:Nat,0≤(dK pte 8)[i]?.getD 0∧(dK pte 8)[i]?.getD 0≤255):=cV (iK 8 pte);have C1:Hid (∀u,Calls Tryz.prog 149 #[.int .u64 pte,.int .i64 8] u fun e w'=>∃g cap,e=.returned (.slice (some ⟨g,0,none⟩) 8 cap)∧OwnB 5 w' u.heap.size g 8 cap (dK pte 8)∧Below u.heap.size u w'):=fun u=>jw 8 pte u (by omega) h3.1 h3.2;have C2:Hid (∀u b cap,Byt u (some ⟨b,0,none⟩) 8 (dK pte 8)→Calls Tryz.prog 189 #[.int .i64 (64*page+8*index),.slice (some ⟨b,0,none⟩) 8 cap] u fun e w'=>∃g c,e=.returned (.slice (some ⟨g,0,none⟩) 11 c)∧OwnB 5 w' u.heap.size g 11 c (ub page index pte)∧Below u.heap.size u w'):=fun u b cap hb=>pX (64*page+8*index) b 0 8 cap (dK pte 8) u hb (by omega) (by omega) (by omega);go_enter Tryz.func190,Tryz.ntmps190;go_wp2_with fail;refine (C1.out w).mono ?_;rintro e v1 ⟨g,cap,rfl,o1,n1⟩;go_wp2_with fail;refine (C2.out v1 g cap (o1.byt HB.out)).mono ?_;rintro e v2 ⟨g2,c2,rfl,o2,n2⟩;have o3:=o2.low n1.size;have n12:=Below.step n1 n2 (Nat.le_refl _);clear o1 o2 n1 n2;go_wp2_with fail;go_ret;exact ⟨g2,c2,rfl,o3,n12⟩
end Go.Proofs.YthekickjjaleaaaGreat

namespace Go.Proofs.YthekickjjaleaaaGreat
open Go.RowKit
set_option linter.unusedVariables false
set_option maxHeartbeats 1600000 in
theorem jr (pte kind mode:Int) (sum mxr:Bool) (w:World) (h0:0≤pte) (h1:pte≤18446744073709551615):
 Calls Tryz.prog 34 #[.int .u64 pte,.int .i64 kind,.int .i64 mode,.bool sum,.bool mxr] w fun e w'=>e=.returned (.bool (eE pte kind mode sum mxr))∧∃n,w'=w.drewN n:=by
 go_enter Tryz.func34,Tryz.ntmps34;go_wp2_with fail;refine (bF pte 1 2 w h0 h1 (by omega) (by omega) rfl).mono ?_;rintro e w' ⟨rfl,n1,rfl⟩;go_wp2_with fail;refine (bF pte 2 4 _ h0 h1 (by omega) (by omega) rfl).mono ?_;rintro e w' ⟨rfl,n2,rfl⟩;go_wp2_with fail;refine (bF pte 3 8 _ h0 h1 (by omega) (by omega) rfl).mono ?_;rintro e w' ⟨rfl,n3,rfl⟩;go_wp2_with fail;refine (bF pte 4 16 _ h0 h1 (by omega) (by omega) rfl).mono ?_;rintro e w' ⟨rfl,n4,rfl⟩;go_wp2_with fail;refine (bF pte 6 64 _ h0 h1 (by omega) (by omega) rfl).mono ?_;rintro e w' ⟨rfl,n5,rfl⟩;go_wp2_with fail;refine (bF pte 7 128 _ h0 h1 (by omega) (by omega) rfl).mono ?_;rintro e w' ⟨rfl,n6,rfl⟩;by_cases k0:kind=0
 ·subst k0;by_cases m0:mode=0
  ·subst m0;go_wp2_with fail;all_goals (go_ret;exact ⟨aF (by simp_all [eE]),_,rfl⟩)
  by_cases m1:mode=1
  ·subst m1;go_wp2_with fail;all_goals (go_ret;exact ⟨aF (by simp_all [eE]),_,rfl⟩)
  ·have m0':(mode == 0)=false:=by simpa using m0
   have m1':(mode == 1)=false:=by simpa using m1
   go_wp2_with fail;all_goals (go_ret;exact ⟨aF (by simp_all [eE]),_,rfl⟩)
 by_cases k1:kind=1
 ·subst k1;by_cases m0:mode=0
  ·subst m0;go_wp2_with fail;all_goals (go_ret;exact ⟨aF (by simp_all [eE]),_,rfl⟩)
  by_cases m1:mode=1
  ·subst m1;go_wp2_with fail;all_goals (go_ret;exact ⟨aF (by simp_all [eE]),_,rfl⟩)
  ·have m0':(mode == 0)=false:=by simpa using m0
   have m1':(mode == 1)=false:=by simpa using m1
   go_wp2_with fail;all_goals (go_ret;exact ⟨aF (by simp_all [eE]),_,rfl⟩)
 by_cases k2:kind=2
 ·subst k2;by_cases m0:mode=0
  ·subst m0;go_wp2_with fail;all_goals (go_ret;exact ⟨aF (by simp_all [eE]),_,rfl⟩)
  by_cases m1:mode=1
  ·subst m1;go_wp2_with fail;all_goals (go_ret;exact ⟨aF (by simp_all [eE]),_,rfl⟩)
  ·have m0':(mode == 0)=false:=by simpa using m0
   have m1':(mode == 1)=false:=by simpa using m1
   go_wp2_with fail;all_goals (go_ret;exact ⟨aF (by simp_all [eE]),_,rfl⟩)
 have k0':(kind == 0)=false:=by simpa using k0
 have k1':(kind == 1)=false:=by simpa using k1
 have k2':(kind == 2)=false:=by simpa using k2
 by_cases m0:mode=0
 ·subst m0;go_wp2_with fail;all_goals (go_ret;exact ⟨aF (by simp_all [eE]),_,rfl⟩)
 by_cases m1:mode=1
 ·subst m1;go_wp2_with fail;all_goals (go_ret;exact ⟨aF (by simp_all [eE]),_,rfl⟩)
 ·have m0':(mode == 0)=false:=by simpa using m0
  have m1':(mode == 1)=false:=by simpa using m1
  go_wp2_with fail;all_goals (go_ret;exact ⟨aF (by simp_all [eE]),_,rfl⟩)
set_option maxHeartbeats 800000 in
theorem pO (pte level va:Int) (w:World) (h0:0≤pte) (h1:pte≤18446744073709551615) (hv:0≤va) (hv':va≤18446744073709551615) (hl: -9223372036854775808≤level) (hl':level≤9223372036854775807):
 Calls Tryz.prog 35 #[.int .u64 pte,.int .i64 level,.int .u64 va] w fun e w'=>e=.returned (.int .u64 (jW pte level va))∧∃n,w'=w.drewN n:=by
 by_cases hneg:level<0
 ·go_enter Tryz.func35,Tryz.ntmps35;go_wp2_with fail;go_ret;exact ⟨fw (by simp [jW,hneg]),0,rfl⟩
 by_cases hgt:2<level
 ·go_enter Tryz.func35,Tryz.ntmps35;go_wp2_with fail;go_ret;exact ⟨fw (by simp [jW,hgt]),0,rfl⟩
 have hpp:0≤dy pte∧dy pte<17592186044416:=⟨Int.emod_nonneg _ (by omega),Int.emod_lt_of_pos _ (by omega)⟩;rcases (show level=0∨level=1∨level=2 by omega) with rfl | rfl | rfl
 ·go_enter Tryz.func35,Tryz.ntmps35;go_wp2_with fail;refine (aV 6 64 _ (by omega) rfl).mono ?_;rintro e w' ⟨rfl,rfl⟩;go_wp2_with fail;go_quiet ((go_at_call 79;exact Calls.quiet_of (cX pte _ h0 h1)));go_wp2_with fail;go_ret;exact ⟨fw (by simp [jW,ph]),nq,rfl⟩
 ·go_enter Tryz.func35,Tryz.ntmps35;go_wp2_with fail;refine (aV 9 512 _ (by omega) rfl).mono ?_;rintro e w' ⟨rfl,rfl⟩;go_wp2_with fail;go_quiet ((go_at_call 79;exact Calls.quiet_of (cX pte _ h0 h1)));go_wp2_with fail;go_ret;exact ⟨fw (by simp [jW,ph]),nq,rfl⟩
 ·go_enter Tryz.func35,Tryz.ntmps35;go_wp2_with fail;refine (aV 12 4096 _ (by omega) rfl).mono ?_;rintro e w' ⟨rfl,rfl⟩;go_wp2_with fail;go_quiet ((go_at_call 79;exact Calls.quiet_of (cX pte _ h0 h1)));go_wp2_with fail;go_ret;exact ⟨fw (by simp [jW,ph]),nq,rfl⟩
end Go.Proofs.YthekickjjaleaaaGreat

namespace Go.Proofs.YthekickjjaleaaaGreat
open Go.RowKit
set_option linter.unusedVariables false
def RowC (w:World) (a:Option Addr) (n size:Nat) (cs:List Value):Prop:=
 cs.length=n*size∧(n=0∨∃b off,a=some ⟨b,off,none⟩∧b<w.heap.size∧∀i v,cs[i]?=some v→w.cell? ⟨b,off+i,none⟩=some v)
theorem RowC.keep {w w':World} {a:Option Addr} {n size:Nat} {cs:List Value} (h:RowC w a n size cs) (hb:Below w.heap.size w w'):RowC w' a n size cs:=by
 obtain ⟨h1,h3⟩:=h;refine ⟨h1,?_⟩;rcases h3 with h3 | ⟨b,off,rfl,hlt,hc⟩
 ·exact .inl h3
 ·exact .inr ⟨b,off,rfl,Nat.lt_of_lt_of_le hlt hb.size,fun i v hi=>(hb.cell (p:=⟨b,off+i,none⟩) hlt).trans (hc i v hi)⟩
theorem RowC.gb {w w':World} {b off n size r:Nat} {cs:List Value} (h:RowC w (some ⟨b,off,none⟩) n size cs) (hg:w.grownBy w' (some r)) (hne:b≠r):RowC w' (some ⟨b,off,none⟩) n size cs:=by
 obtain ⟨h1,h3⟩:=h;refine ⟨h1,?_⟩;rcases h3 with h3 | ⟨b',off',e,hlt,hc⟩
 ·exact .inl h3
 ·simp at e;obtain ⟨rfl,rfl⟩:=e;exact .inr ⟨b,off,rfl,Nat.lt_of_lt_of_le hlt hg.size,fun i v hi=>(World.cell?_of_block (hg.block b hlt (by simpa using hne))).trans (hc i v hi)⟩
theorem RowC.gb' {w w':World} {a:Option Addr} {n size r:Nat} {cs:List Value} (h:RowC w a n size cs) (hg:w.grownBy w' (some r)) (hne:∀q,a=some q→q.block≠r):RowC w' a n size cs:=by
 obtain ⟨h1,h3⟩:=h;refine ⟨h1,?_⟩;rcases h3 with h3 | ⟨b,off,rfl,hlt,hc⟩
 ·exact .inl h3
 ·have hne':b≠r:=hne ⟨b,off,none⟩ rfl;exact .inr ⟨b,off,rfl,Nat.lt_of_lt_of_le hlt hg.size,fun i v hi=>(World.cell?_of_block (hg.block b hlt (by simpa using hne'))).trans (hc i v hi)⟩
theorem aw {w w':World} {g r:Nat} {o:Obj} (h:w.heap[g]?=some o) (hg:w.grownBy w' (some r)) (hne:g≠r):w'.heap[g]?=some o:=by
 rw [hg.block g (Array.getElem?_eq_some_iff.1 h).1 (by simpa using hne),h]
theorem RowC.nil (w:World) (a:Option Addr) (size:Nat):RowC w a 0 size []:=⟨by simp,.inl rfl⟩
theorem Below.froz2 {w w':World} (h:Below w.heap.size w w') {b o:Nat} {x:Bool} (hc:w.frozen? ⟨b,o,none⟩=x) (hb:b<w.heap.size):w'.frozen? ⟨b,o,none⟩=x:=(h.frozen (p:=⟨b,o,none⟩) hb).trans hc
def OwnC (e:TypeId) (size:Nat) (w:World) (base g n cap:Nat) (cs:List Value):Prop:=
 w.ownsRow base e size (.slice (some ⟨g,0,none⟩) n cap) n cs
theorem OwnC.new (e:TypeId) (size:Nat) (w:World) (cs:List Value) (n:Nat) (hn:cs.length=n*size) (hm:n≤maxLen):OwnC e size (w.alloc (.cells cs.toArray e)) w.heap.size w.heap.size n n cs:=
 ⟨hn,.inr ⟨w.heap.size,n,_,rfl,Nat.le_refl _,heap_alloc_new w _,Nat.le_refl _,hm,by simp [hn],List.take_of_length_le (by simp [hn])⟩⟩
theorem OwnC.facts {e:TypeId} {size:Nat} {w:World} {base g n cap:Nat} {cs:List Value} (h:OwnC e size w base g n cap cs):
 cs.length=n*size∧base≤g∧g<w.heap.size∧n≤cap∧cap≤maxLen:=by
 obtain ⟨h1,h2⟩:=h;rcases h2 with ⟨h2,_⟩ | ⟨g',cap',cur,h2,hb,hh,hn,hm,hs,ht⟩
 ·simp at h2
 ·simp at h2;obtain ⟨rfl,rfl⟩:=h2;exact ⟨h1,hb,(Array.getElem?_eq_some_iff.1 hh).1,hn,hm⟩
theorem OwnC.row {e:TypeId} {size:Nat} {w:World} {base g n cap:Nat} {cs:List Value} (h:OwnC e size w base g n cap cs):RowC w (some ⟨g,0,none⟩) n size cs:=by
 refine ⟨h.1,.inr ⟨g,0,rfl,h.facts.2.2.1,fun i v hi=>?_⟩⟩;have hl:i<cs.length:=(List.getElem?_eq_some_iff.1 hi).1;rw [Nat.zero_add,World.ownsRow.cellAt h i (by rw [←h.1];exact hl),hi]
theorem OwnC.keep {e:TypeId} {size B:Nat} {w w':World} {base g n cap:Nat} {cs:List Value} (h:OwnC e size w base g n cap cs) (hb:Below B w w') (hg:g<B):OwnC e size w' base g n cap cs:=by
 obtain ⟨h1,h2⟩:=h;refine ⟨h1,?_⟩;rcases h2 with ⟨h2,_⟩ | ⟨g',cap',cur,h2,hb',hh,r⟩
 ·simp at h2
 ·have hh':=h2;simp at hh';obtain ⟨rfl,rfl⟩:=hh';exact .inr ⟨_,_,cur,h2,hb',by rw [hb.block _ hg];exact hh,r⟩
theorem OwnC.gb {e:TypeId} {size:Nat} {w w':World} {base g n cap r:Nat} {cs:List Value} (h:OwnC e size w base g n cap cs) (hg:w.grownBy w' (some r)) (hne:g≠r):OwnC e size w' base g n cap cs:=by
 obtain ⟨h1,h2⟩:=h;refine ⟨h1,?_⟩;rcases h2 with ⟨h2,_⟩ | ⟨g',cap',cur,h2,hb',hh,r'⟩
 ·simp at h2
 ·have hh':=h2;simp at hh';obtain ⟨rfl,rfl⟩:=hh';exact .inr ⟨_,_,cur,h2,hb',by rw [hg.block _ (Array.getElem?_eq_some_iff.1 hh).1 (by simpa using hne)];exact hh,r'⟩
theorem OwnC.low {e:TypeId} {size:Nat} {w:World} {base base' g n cap:Nat} {cs:List Value} (h:OwnC e size w base g n cap cs) (hb:base'≤base):OwnC e size w base' g n cap cs:=by
 obtain ⟨h1,h2⟩:=h;refine ⟨h1,?_⟩;rcases h2 with ⟨h2,_⟩ | ⟨g',cap',cur,h2,hb',r⟩
 ·simp at h2
 ·exact .inr ⟨g',cap',cur,h2,by omega,r⟩
theorem OwnC.of_append {e:TypeId} {size:Nat} {w':World} {base g n cap m:Nat} {v':Value} {cs:List Value} (h:w'.ownsRow base e size v' (n+m) cs)
 (hv:v'=.slice none 0 0↔(Value.slice (some ⟨g,0,none⟩) n cap)=.slice none 0 0∧m=0):∃g' cap',v'=.slice (some ⟨g',0,none⟩) (n+m) cap'∧OwnC e size w' base g' (n+m) cap' cs:=by
 rcases h.2 with ⟨h2,_⟩ | ⟨g',cap',cur,h2,r⟩
 ·have:=hv.1 h2;simp at this
 ·refine ⟨g',cap',h2,?_⟩;subst h2;exact h
theorem OwnC.grown {e:TypeId} {size B:Nat} {a w w':World} {base g n cap:Nat} {cs:List Value} (h:Below B a w) (o:OwnC e size w base g n cap cs) (hg:w.grownBy w' (Value.slice (some ⟨g,0,none⟩) n cap).ownBlock) (hB:B≤base):Below B a w':=by
 have f:=o.facts;exact h.grown hg (by omega) (fun k hk=>by cases hk;show B≤g;omega)
theorem nl {w:World} {b off n size:Nat} {cs:List Value} (h:RowC w (some ⟨b,off,none⟩) n size cs):∀j u,cs[j]?=some u→w.cell? (Addr.add ⟨b,off,none⟩ j)=some u:=by
 intro j u hu;obtain ⟨h1,h3⟩:=h;rcases h3 with h3 | ⟨b',off',e,_,hc⟩
 ·subst h3;simp at h1;subst h1;simp at hu
 ·simp at e;obtain ⟨rfl,rfl⟩:=e;have e:Addr.add ⟨b,off,none⟩ j=⟨b,off+j,none⟩:=by
   unfold Addr.add;split
   ·next h=>subst h;rfl
   ·rfl
  rw [e];exact hc j u hu
theorem mB {P:Program} (w:World) {o:Oper} {a:Act} {K:Act→World→Prop} {Q:Exit→Act→World→Prop} (s x:Operand) (t:TypeId)
 (ho:o.op=.call { callee:=.builtin .append,args:=#[s,x],argTypes:=#[t,t] }) (e:TypeId) (ht:P.underlying t=some (.slice e)) (z:Value) (size bytes:Nat)
 (hi:(P.info? e).map (fun i=>(i.zero,i.size,i.bytes))=some (some z,size,bytes)) (hzs:z.cells.size=size) (hsz:0<size)
 (base g n cap:Nat) (cs:List Value) (hs:a.eval s=.slice (some ⟨g,0,none⟩) n cap) (hown:OwnC e size w base g n cap cs)
 (src:Option Addr) (m c:Nat) (ys:List Value) (hx:a.eval x=.slice src m c) (hnil:src=none→m=0∧c=0) (hspot:∀q,src=some q→q.spot=none) (hy:RowC w src m size ys) (h1:∀u∈ys,u.oneCell'=true)
 (hbd:(n+m)*bytes≤140737488355328) (hbd':n+m≤9223372036854775807)
 (B:Nat) (W:World) (hb:Below B W w) (hB:B≤base)
 (h:∀g' cap' w',OwnC e size w' base g' (n+m) cap' (cs++ys)→Below B W w'→K (a.put o.dst (.slice (some ⟨g',0,none⟩) (n+m) cap')) w'):o.wp P a w K Q:=by
 obtain ⟨i0,hi,hz0,hz1,hz2⟩:=info_parts hi;have f:=hown.facts;cases src with
 | none=>
  obtain ⟨rfl,rfl⟩:=hnil rfl;have hys:ys=[]:=by have:=hy.1;simpa using this
  subst hys;have hrun:=run_append_owned_none (P:=P) (w:=w) base t o.type e i0 size ht hi _ n cs hown;unfold Oper.wp;simp [execOp,ho,resolve,invoke,builtin,hs,hx,hrun,Result.andThen];have:=h g cap w (by simpa using hown) hb;simp only [Nat.add_zero] at this;exact this
 | some q=>
  obtain ⟨b,off,spot⟩:=q;have:=hspot ⟨b,off,spot⟩ rfl;simp at this;subst this;refine wp_append_own w s x t ho base e i0 z size bytes ht hi hz0 hz1 hz2 hzs hsz _ n _ hs hown ⟨b,off,none⟩ m c ys hx hy.1 (nl hy) h1 (by unfold maxLen;omega) hbd (by omega) ?_;intro v' w' h1 h2 h3;obtain ⟨g',cap',rfl,o4⟩:=OwnC.of_append h1 h3;exact h g' cap' w' o4 (OwnC.grown hb hown h2 hB)
theorem gj {P:Program} (w:World) {ops:Array Oper} {rest:List Oper} {o:Oper} {a:Act} {Q:Exit→Act→World→Prop} (hgd:o.guard=none) (s x:Operand) (t:TypeId)
 (ho:o.op=.call { callee:=.builtin .append,args:=#[s,x],argTypes:=#[t,t] }) (e:TypeId) (ht:P.underlying t=some (.slice e)) (z:Value) (size bytes:Nat)
 (hi:(P.info? e).map (fun i=>(i.zero,i.size,i.bytes))=some (some z,size,bytes)) (hzs:z.cells.size=size) (hsz:0<size)
 (base g n cap:Nat) (cs:List Value) (hs:a.eval s=.slice (some ⟨g,0,none⟩) n cap) (hown:OwnC e size w base g n cap cs)
 (src:Option Addr) (m c:Nat) (ys:List Value) (hx:a.eval x=.slice src m c) (hnil:src=none→m=0∧c=0) (hspot:∀q,src=some q→q.spot=none) (hy:RowC w src m size ys) (h1:∀u∈ys,u.oneCell'=true)
 (hbd:(n+m)*bytes≤140737488355328) (hbd':n+m≤9223372036854775807)
 (B:Nat) (W:World) (hb:Below B W w) (hB:B≤base)
 (h:∀g' cap' w',OwnC e size w' base g' (n+m) cap' (cs++ys)→Below B W w'→wpList P ops Q rest (a.put o.dst (.slice (some ⟨g',0,none⟩) (n+m) cap')) w'):wpList P ops Q (o::rest) a w:=
 wpList_plain hgd fun _ hK=>mB w s x t ho e ht z size bytes hi hzs hsz base g n cap cs hs hown src m c ys hx hnil hspot hy h1 hbd hbd' B W hb hB fun g' cap' w' h2 h3=>hK _ _ (h g' cap' w' h2 h3)
theorem jT {P:Program} (w:World) {ops:Array Oper} {o:Oper} {a:Act} {K:Act→World→Prop} {Q:Exit→Act→World→Prop} {E:Prop} (hgd:o.guard=none) (s x:Operand) (t:TypeId)
 (ho:o.op=.call { callee:=.builtin .append,args:=#[s,x],argTypes:=#[t,t] }) (e:TypeId) (ht:P.underlying t=some (.slice e)) (z:Value) (size bytes:Nat)
 (hi:(P.info? e).map (fun i=>(i.zero,i.size,i.bytes))=some (some z,size,bytes)) (hzs:z.cells.size=size) (hsz:0<size)
 (base g n cap:Nat) (cs:List Value) (hs:a.eval s=.slice (some ⟨g,0,none⟩) n cap) (hown:OwnC e size w base g n cap cs)
 (src:Option Addr) (m c:Nat) (ys:List Value) (hx:a.eval x=.slice src m c) (hnil:src=none→m=0∧c=0) (hspot:∀q,src=some q→q.spot=none) (hy:RowC w src m size ys) (h1:∀u∈ys,u.oneCell'=true)
 (hbd:(n+m)*bytes≤140737488355328) (hbd':n+m≤9223372036854775807)
 (B:Nat) (W:World) (hb:Below B W w) (hB:B≤base)
 (h:∀g' cap' w',OwnC e size w' base g' (n+m) cap' (cs++ys)→Below B W w'→K (a.put o.dst (.slice (some ⟨g',0,none⟩) (n+m) cap')) w'):
 if Region.wanted o (yielded ops a.tmps)=true then Oper.wp P o a w K Q else E:=by
 have hw:Region.wanted o (yielded ops a.tmps)=true:=by simp [Region.wanted,hgd]
 rw [if_pos hw];exact mB w s x t ho e ht z size bytes hi hzs hsz base g n cap cs hs hown src m c ys hx hnil hspot hy h1 hbd hbd' B W hb hB h
end Go.Proofs.YthekickjjaleaaaGreat

namespace Go.Proofs.YthekickjjaleaaaGreat
set_option linter.unusedVariables false
def dq (va level:Int):Int:=if level=0 then va/64%8 else if level=1 then va/512%8 else va/4096%8
abbrev eh:=Int × Int × Int
def cH (zs:List Int) (va:Int):Nat→Int→Int × Int × Int × List eh
 | l,n=>
  if ed zs.length (64*n+8*dq va l) 8=false then (3,l,0,[])
  else if bC (rdV zs (64*n+8*dq va l) 8) l=0 then (2,l,0,[])
  else if bC (rdV zs (64*n+8*dq va l) 8) l=2 then (1,l,rdV zs (64*n+8*dq va l) 8,[((l:Int),64*n+8*dq va l,rdV zs (64*n+8*dq va l) 8)])
  else match l with
   | 0=>(2,0,0,[])
   | k+1=>((cH zs va k (dy (rdV zs (64*n+8*dq va l) 8))).1,(cH zs va k (dy (rdV zs (64*n+8*dq va l) 8))).2.1,(cH zs va k (dy (rdV zs (64*n+8*dq va l) 8))).2.2.1,
    ((l:Int),64*n+8*dq va l,rdV zs (64*n+8*dq va l) 8)::(cH zs va k (dy (rdV zs (64*n+8*dq va l) 8))).2.2.2)
def cf (zs:List Int) (root va:Int):Int × Int × Int × List eh:=
 if cU va=false then (2,2,0,[]) else cH zs va 2 (root%17592186044416)
def gV (kind:Int):Int:=if kind=0 then 12 else if kind=1 then 13 else 15
def dJ (kind:Int):Int:=if kind=0 then 1 else if kind=1 then 5 else 7
def onM (mode satp:Int):Bool:=satp/1152921504606846976%16 == 8 && (mode == 0 || mode == 1)
def aU (satp:Int):Int:=satp/17592186044416%65536
def fU (pte level mode:Int) (sum mxr:Bool) (kind va:Int):Int × Int:=
 if eE pte kind mode sum mxr=true then (0,jW pte level va) else (gV kind,0)
def el (r:Int × Int × Int × List eh) (mode:Int) (sum mxr:Bool) (kind va:Int):Int × Int:=
 if r.1=2 then (gV kind,0) else if r.1=3 then (dJ kind,0) else fU r.2.2.1 r.2.1 mode sum mxr kind va
def ie (zs:List Int) (mode:Int) (sum mxr:Bool) (satp kind va:Int):Int × Int:=
 if kind<0∨2<kind∨mode<0∨2<mode then (63,0)
 else if onM mode satp=false then (0,va)
 else el (cf zs satp va) mode sum mxr kind va
end Go.Proofs.YthekickjjaleaaaGreat
