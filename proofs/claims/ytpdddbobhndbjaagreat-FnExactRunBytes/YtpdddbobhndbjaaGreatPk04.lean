import Derived.Test.YtpdddbobhndbjaaGreatPk03
import Derived.Deep.CutRange
namespace Go.Proofs.YtpdddbobhndbjaaGreat
open Go.RowKit
set_option linter.unusedVariables false
set_option maxHeartbeats 6400000
set_option maxRecDepth 20000
section
attribute [local go_sem ↓] Go.wp_at_zero Go.wp_at_succ
def dV (mode:Int) (sum mxr:Bool) (satp:Int):Value:=.agg #[.int .i64 mode,.bool sum,.bool mxr,.int .u64 satp]
theorem lT (mode:Int) (sum mxr:Bool) (satp:Int) (w:World) (h0:0<=satp) (h1:satp<=18446744073709551615):
 Calls Tryz.prog 108 #[dV mode sum mxr satp] w fun e w'=>e=.returned (.bool (onM mode satp))∧Bw w w':=by
 unfold dV;have a1:=fF w #[.int .i64 mode,.bool sum,.bool mxr,.int .u64 satp] 172;go_enter Tryz.func108,Tryz.ntmps108;go_wp2_with fail;generalize w.alloc (Obj.cells #[.int .i64 mode,.bool sum,.bool mxr,.int .u64 satp] 172)=v1 at a1 |-;obtain ⟨l1,c1,n1⟩:=a1;have c10:=c1 0;clear c1;refine (bK satp 60 63 1152921504606846976 16 v1 h0 h1 (by omega) (by omega) (by omega) (by omega) rfl rfl).mono ?_;rintro e w' ⟨rfl,nq,rfl⟩;cases hs:(satp/1152921504606846976%16 == 8)
 ·go_wp2_with fail;go_ret;exact ⟨aE (by simp [onM,hs]),below_drewN n1 nq⟩
 ·cases hm0:(mode == 0)
  ·go_wp2_with fail;go_ret;exact ⟨aE (by simp [onM,hs,hm0]),below_drewN n1 nq⟩
  ·go_wp2_with fail;go_ret;exact ⟨aE (by simp [onM,hs,hm0]),below_drewN n1 nq⟩
theorem pz (satp:Int) (w:World) (h0:0<=satp) (h1:satp<=18446744073709551615):
 Calls Tryz.prog 115 #[.int .u64 satp] w fun e w'=>e=.returned (.int .u64 (aM satp))∧∃n,w'=w.drewN n:=by
 go_enter Tryz.func115,Tryz.ntmps115;go_wp2_with fail;refine (bK satp 44 59 17592186044416 65536 w h0 h1 (by omega) (by omega) (by omega) (by omega) rfl rfl).mono ?_;rintro e w' ⟨rfl,nq,rfl⟩;go_wp2_with fail;go_ret;exact ⟨rfl,nq,rfl⟩
theorem iV (kind:Int) (w:World):Calls Tryz.prog 113 #[.int .i64 kind] w fun e w'=>e=.returned (.int .i64 (eA kind))∧w'=w:=by
 by_cases k0:kind=0
 ·subst k0;go_enter Tryz.func113,Tryz.ntmps113;go_wp2_with fail;go_ret;exact ⟨rfl,rfl⟩
 by_cases k1:kind=1
 ·subst k1;go_enter Tryz.func113,Tryz.ntmps113;go_wp2_with fail;go_ret;exact ⟨rfl,rfl⟩
 have k0':(kind == 0)=false:=by simpa using k0
 have k1':(kind == 1)=false:=by simpa using k1
 go_enter Tryz.func113,Tryz.ntmps113;go_wp2_with fail;go_ret;exact ⟨cx (by simp [eA,k0,k1]),rfl⟩
theorem jM (kind:Int) (w:World):Calls Tryz.prog 123 #[.int .i64 kind] w fun e w'=>e=.returned (.int .i64 (bL kind))∧w'=w:=by
 by_cases k0:kind=0
 ·subst k0;go_enter Tryz.func123,Tryz.ntmps123;go_wp2_with fail;go_ret;exact ⟨rfl,rfl⟩
 by_cases k1:kind=1
 ·subst k1;go_enter Tryz.func123,Tryz.ntmps123;go_wp2_with fail;go_ret;exact ⟨rfl,rfl⟩
 have k0':(kind == 0)=false:=by simpa using k0
 have k1':(kind == 1)=false:=by simpa using k1
 go_enter Tryz.func123,Tryz.ntmps123;go_wp2_with fail;go_ret;exact ⟨cx (by simp [bL,k0,k1]),rfl⟩
def fu (r:Int × Int):Value:=.agg #[.int .i64 r.1,.int .u64 r.2]
theorem lU {w:World} {g:Nat} {T:TypeId} {a b:Value} (h:w.heap[g]?=some (.cells #[a,b] T (0,0))):
 (w.cell? ⟨g,0,none⟩=some a∧w.cell? ⟨g,1,none⟩=some b)∧w.frozen? ⟨g,0,none⟩=false∧w.frozen? ⟨g,1,none⟩=false:=by
 simp [World.cell?,World.frozen?,h]
theorem AO {B:Nat} {a w:World} {g:Nat} (h:Below B a w) (hg:B<=g) (x y:Value):Below B a ((w.setCell ⟨g,0,none⟩ x).setCell ⟨g,1,none⟩ y):=
 (h.setCell (p:=⟨g,0,none⟩) hg x).setCell (p:=⟨g,1,none⟩) hg y
theorem mN (pte level mode:Int) (sum mxr:Bool) (satp kind va:Int) (w:World) (h0:0<=pte) (h1:pte<=18446744073709551615) (hv:0<=va) (hv':va<=18446744073709551615) (hl: -9223372036854775808<=level) (hl':level<=9223372036854775807):
 Calls Tryz.prog 116 #[.int .u64 pte,.int .i64 level,dV mode sum mxr satp,.int .i64 kind,.int .u64 va] w fun e w'=>e=.returned (fu (eV pte level mode sum mxr kind va))∧Bw w w':=by
 unfold dV eV;cases hg:dm pte kind mode sum mxr
 ·rw [if_neg (by simp)];have HG:=hid hg;clear hg;go_enter Tryz.func116,Tryz.ntmps116;go_wp2_with fail;refine (kV pte kind mode sum mxr _ h0 h1).mono ?_;rintro e w' ⟨rfl,nq,rfl⟩;rw [HG.out];go_wp2_with (go_at_call 113;refine (iV kind _).mono ?_;rintro e w' ⟨rfl,rfl⟩);exact bodyPost_ret (v:=.agg #[.int .i64 (eA kind),.int .u64 0]) (by simp [results,Tryz.results116,go_sem]) rfl ⟨rfl,AO (below_drewN (((Below.refl _ _).alloc nle _).alloc (by simp) _) nq) (Nat.le_succ _) _ _⟩
 ·rw [if_pos rfl];have HG:=hid hg;clear hg;go_enter Tryz.func116,Tryz.ntmps116;go_wp2_with fail;refine (kV pte kind mode sum mxr _ h0 h1).mono ?_;rintro e w' ⟨rfl,nq,rfl⟩;rw [HG.out];go_wp2_with (go_at_call 138;refine (sR pte level va _ h0 h1 hv hv' hl hl').mono ?_;rintro e w' ⟨rfl,nr,rfl⟩);exact bodyPost_ret (v:=.agg #[.int .i64 0,.int .u64 (fP pte level va)]) (by simp [results,Tryz.results116,go_sem]) rfl ⟨rfl,AO (below_drewN (((Below.refl _ _).alloc nle _).alloc (by simp) _) (nq+nr)) (Nat.le_succ _) _ _⟩
theorem kc (r:Int × Int × Int × List dQ) (v:Value) (mode:Int) (sum mxr:Bool) (satp kind va:Int) (w:World) (h0:0<=r.2.2.1) (h1:r.2.2.1<=18446744073709551615) (hv:0<=va) (hv':va<=18446744073709551615) (hl:0<=r.2.1) (hl':r.2.1<=2) (ho:v.oneCell'=true):
 Calls Tryz.prog 109 #[.agg #[.int .i64 r.1,.int .i64 r.2.1,.int .u64 r.2.2.1,v],dV mode sum mxr satp,.int .i64 kind,.int .u64 va] w fun e w'=>e=.returned (fu (cV r mode sum mxr kind va))∧Bw w w':=by
 obtain ⟨c,l,p,rs⟩:=r;simp only at h0 h1 hl hl' |-;unfold cV;simp only;by_cases c2:c=2
 ·subst c2;rw [if_pos rfl];unfold dV;go_enter Tryz.func109,Tryz.ntmps109;go_wp2_with (go_at_call 113;refine (iV kind _).mono ?_;rintro e w' ⟨rfl,rfl⟩);exact bodyPost_ret (v:=.agg #[.int .i64 (eA kind),.int .u64 0]) (by simp [results,Tryz.results109,go_sem]) rfl ⟨rfl,(((Below.refl _ _).alloc nle _).alloc (by simp) _).alloc (by simp;omega) _⟩
 rw [if_neg c2];have c2':(c == 2)=false:=by simpa using c2
 by_cases c3:c=3
 ·subst c3;rw [if_pos rfl];clear c2 c2';unfold dV;go_enter Tryz.func109,Tryz.ntmps109;go_wp2_with (go_at_call 123;refine (jM kind _).mono ?_;rintro e w' ⟨rfl,rfl⟩);exact bodyPost_ret (v:=.agg #[.int .i64 (bL kind),.int .u64 0]) (by simp [results,Tryz.results109,go_sem]) rfl ⟨rfl,(((Below.refl _ _).alloc nle _).alloc (by simp) _).alloc (by simp;omega) _⟩
 rw [if_neg c3];have c3':(c == 3)=false:=by simpa using c3
 clear c2 c3;obtain ⟨⟨x1,x2⟩,hX⟩:∃X,eV p l mode sum mxr kind va=X:=⟨_,rfl⟩;rw [hX];have HX:=hid hX;clear hX;obtain ⟨v1,Ev1,n1,_,_,H1,l1⟩:=al3 w #[.int .i64 c,.int .i64 l,.int .u64 p,v] #[.int .i64 mode,.bool sum,.bool mxr,.int .u64 satp] #[.int .i64 0,.int .u64 0] 213 172 128;unfold dV;go_enter Tryz.func109,Tryz.ntmps109;go_wp2_with fail;rw [Ev1.out];clear Ev1;refine (mN p l mode sum mxr satp kind va v1 h0 h1 hv hv' (by omega) (by omega)).mono ?_;rw [HX.out];rintro e v2 ⟨rfl,n2⟩;have n12:=bst n1 n2;obtain ⟨⟨d0,d1⟩,e0,e1⟩:=lU (ae H1.out n2 l1);unfold fu;simp only;clear n1 n2 H1;go_wp2_with fail;exact bodyPost_ret (v:=.agg #[.int .i64 x1,.int .u64 x2]) (by simp [results,Tryz.results109,go_sem,d0,d1]) rfl ⟨rfl,AO n12 (by omega) _ _⟩
theorem rP (zs:List Int) (va:Int) (h:∀i:Nat,0<=zs[i]?.getD 0∧zs[i]?.getD 0<=255):∀(l:Nat) (n:Int),l<=2->
 0<=(cQ zs va l n).2.2.1∧(cQ zs va l n).2.2.1<=18446744073709551615∧0<=(cQ zs va l n).2.1∧(cQ zs va l n).2.1<=2
 | 0,n,hl=>by
  unfold cQ;have hb:=mH zs (64*n+8*dN va ((0:Nat):Int)) 8 (by omega) h;split
  ·simp
  ·split
   ·simp
   ·split
    ·exact ⟨hb.1,hb.2,by simp,by simp⟩
    ·simp
 | l+1,n,hl=>by
  unfold cQ;have hb:=mH zs (64*n+8*dN va ((l+1:Nat):Int)) 8 (by omega) h;split
  ·exact ⟨by simp,by simp,by show (0:Int)<=((l+1:Nat):Int);omega,by show ((l+1:Nat):Int)<=2;omega⟩
  ·split
   ·exact ⟨by simp,by simp,by show (0:Int)<=((l+1:Nat):Int);omega,by show ((l+1:Nat):Int)<=2;omega⟩
   ·split
    ·exact ⟨hb.1,hb.2,by show (0:Int)<=((l+1:Nat):Int);omega,by show ((l+1:Nat):Int)<=2;omega⟩
    ·exact rP zs va h l _ (by omega)
theorem rQ (zs:List Int) (root va:Int) (h:∀i:Nat,0<=zs[i]?.getD 0∧zs[i]?.getD 0<=255):
 0<=(dv zs root va).2.2.1∧(dv zs root va).2.2.1<=18446744073709551615∧0<=(dv zs root va).2.1∧(dv zs root va).2.1<=2:=by
 unfold dv;split
 ·simp
 ·exact rP zs va h 2 _ (by omega)
theorem sT (a:Option Addr) (len cap:Nat) (zs:List Int) (mode:Int) (sum mxr:Bool) (satp kind va:Int) (w:World) (hl:len<=1048576) (hc:len<=cap) (hm:cap<=9223372036854775807) (hs0:0<=satp) (hs1:satp<=18446744073709551615) (hv0:0<=va) (hv1:va<=18446744073709551615) (hB:Byt w a len zs):
 Calls Tryz.prog 84 #[.slice a len cap,dV mode sum mxr satp,.int .i64 kind,.int .u64 va] w fun e w'=>e=.returned (fu (iF zs mode sum mxr satp kind va))∧Bw w w':=by
 by_cases hbad:kind<0∨2<kind∨mode<0∨2<mode
 ·have hp:iF zs mode sum mxr satp kind va=(63,0):=by unfold iF;rw [if_pos hbad]
  rw [hp];unfold dV fu;clear hp;rcases (show kind<0∨(0<=kind∧2<kind)∨(0<=kind∧kind<=2∧mode<0)∨(0<=kind∧kind<=2∧0<=mode∧2<mode) by omega) with h | ⟨h,h'⟩ | ⟨h,h',h''⟩ | ⟨h,h',h'',h3⟩;all_goals
   clear hbad;go_enter Tryz.func84,Tryz.ntmps84;go_wp2_with fail;exact bodyPost_ret (v:=.agg #[.int .i64 63,.int .u64 0]) (by simp [results,Tryz.results84,go_sem]) rfl ⟨rfl,((Below.refl _ _).alloc nle _).alloc (by simp) _⟩
 ·have hk0:0<=kind:=by omega
  have hk2:kind<=2:=by omega
  have hm0:0<=mode:=by omega
  have hm2:mode<=2:=by omega
  unfold iF;rw [if_neg hbad];clear hbad;cases hon:onM mode satp
  ·rw [if_pos rfl];obtain ⟨v1,Ev1,n1,H2,H1,l1⟩:=al2 w #[.int .i64 mode,.bool sum,.bool mxr,.int .u64 satp] #[.int .i64 0,.int .u64 0] 172 128;have HO:=hid hon;clear hon;unfold dV;go_enter Tryz.func84,Tryz.ntmps84;go_wp2_with fail;rw [Ev1.out];clear Ev1;refine (lT mode sum mxr satp v1 hs0 hs1).mono ?_;rintro e v2 ⟨rfl,n2⟩;rw [HO.out];have n12:=bst n1 n2;obtain ⟨⟨d0,d1⟩,e0,e1⟩:=lU (ae H1.out n2 l1);have H3:=hid (ae H2.out n2 (by omega));have H4:=hid (ae H1.out n2 l1);have l2:=Nat.lt_of_lt_of_le l1 n2.size;clear n1 n2 H1 H2 l1;go_wp2_with fail;exact bodyPost_ret (v:=.agg #[.int .i64 0,.int .u64 va]) (by simp [results,Tryz.results84,go_sem,d0,d1]) rfl ⟨rfl,AO n12 (by omega) _ _⟩
  ·rw [if_neg (by simp)];obtain ⟨⟨x1,x2⟩,hX⟩:∃X,cV (dv zs satp va) mode sum mxr kind va=X:=⟨_,rfl⟩;rw [hX];have HX:=hid hX;clear hX;obtain ⟨v1,Ev1,n1,H2,H1,l1⟩:=al2 w #[.int .i64 mode,.bool sum,.bool mxr,.int .u64 satp] #[.int .i64 0,.int .u64 0] 172 128;have HO:=hid hon;clear hon;unfold dV;go_enter Tryz.func84,Tryz.ntmps84;go_wp2_with fail;rw [Ev1.out];clear Ev1;refine (lT mode sum mxr satp v1 hs0 hs1).mono ?_;rintro e v2 ⟨rfl,n2⟩;rw [HO.out];have n12:=bst n1 n2;obtain ⟨⟨d0,d1⟩,e0,e1⟩:=lU (ae H1.out n2 l1);have H3:=hid (ae H2.out n2 (by omega));have H4:=hid (ae H1.out n2 l1);have l2:=Nat.lt_of_lt_of_le l1 n2.size;clear n1 n2 H1 H2 l1;obtain ⟨⟨q0,q1,q2,q3⟩,_⟩:=az H3.out;have HBy:=hid fun (v:World) (hv:Bw v2 v)=>(hB.keep n12).keep hv;have HC:Hid (∀v:World,Bw v2 v->v.cell? ⟨w.heap.size,0,none⟩=some (.int .i64 mode)∧v.cell? ⟨w.heap.size,1,none⟩=some (.bool sum)∧v.cell? ⟨w.heap.size,2,none⟩=some (.bool mxr)∧v.cell? ⟨w.heap.size,3,none⟩=some (.int .u64 satp)):=
    fun v hv=>(az (ae H3.out hv (by omega))).1
   have hwb:=rQ zs satp va (hB.2.1);clear hB d0 d1 e0 e1;obtain ⟨W,hW⟩:∃W,dv zs satp va=W:=⟨_,rfl⟩;rw [hW] at hwb;have HW:=hid hW;clear hW;go_wp2_with fail;go_region_held3 (fun w'=>w'.cell? ⟨w.heap.size,0,none⟩=some (.int .i64 mode)∧w'.cell? ⟨w.heap.size,1,none⟩=some (.bool sum)∧w'.cell? ⟨w.heap.size,2,none⟩=some (.bool mxr)∧w'.cell? ⟨w.heap.size,3,none⟩=some (.int .u64 satp)) (go_keep)
    (first
     | (go_at_call 110;refine (ox a len cap zs satp va _ hl hc hm hs0 hs1 hv0 hv1 (HBy.out _ (Below.refl _ _).drew)).mono ?_;rw [HW.out];rintro e v3 ⟨⟨a3,c3,rfl,r3,na3,sp3,nc3⟩,n3⟩;have m3:Bw v2 v3:=(Below.refl v2.heap.size v2).drew.trans n3;obtain ⟨g0,g1,g2,g3⟩:=HC.out v3 m3;clear r3 na3 sp3 nc3 n3)
     | (go_at_call 109;refine (kc W (.slice a3 W.2.2.2.length c3) mode sum mxr satp kind va _ hwb.1 hwb.2.1 hv0 hv1 hwb.2.2.1 hwb.2.2.2 rfl).mono ?_;rw [<-HW.out,HX.out];unfold fu;rintro e v4 ⟨rfl,n4⟩;have m4:Bw v2 v4:=bst m3 n4;obtain ⟨j0,j1,j2,j3⟩:=HC.out v4 m4;obtain ⟨⟨d0,d1⟩,e0,e1⟩:=lU (ae H4.out m4 l2);clear n4))
   go_wp2_with fail;exact bodyPost_ret (v:=.agg #[.int .i64 x1,.int .u64 x2]) (by simp [results,Tryz.results84,go_sem,d0,d1]) rfl ⟨rfl,AO (bst n12 m4) (by omega) _ _⟩
end
structure EntM where
 valid:Bool
 level:Int
 tag:Int
 asid:Int
 glob:Bool
 pte:Int
def cK:EntM:=⟨false,0,0,0,false,0⟩
structure TlbM where
 sets:Int
 ways:Int
 es:List EntM
def fJ (va level:Int):Int:=if level=0 then va/64%512 else if level=1 then va/512%64 else va/4096%8
def kQ (level:Int):Int:=if level=0 then 512 else if level=1 then 64 else 8
def iu (p:Bool):Int:=if p=true then 1 else 2
def aY (e:EntM) (p:Bool):Bool:=
 e.valid && decide (0<=e.level) && decide (e.level<=2) && decide (e.tag<kQ e.level) && decide (e.asid<=65535) && (e.glob == bR e.pte 32) && (bC e.pte e.level == iu p)
def eU (e:EntM):Prop:=
 (-9223372036854775808<=e.level∧e.level<=9223372036854775807)∧(0<=e.tag∧e.tag<=18446744073709551615)∧(0<=e.asid∧e.asid<=18446744073709551615)∧(0<=e.pte∧e.pte<=18446744073709551615)
def jr (e:EntM):List Value:=[.bool e.valid,.int .i64 e.level,.int .u64 e.tag,.int .u64 e.asid,.bool e.glob,.int .u64 e.pte]
def mq (e:EntM):Value:=.agg #[.bool e.valid,.int .i64 e.level,.int .u64 e.tag,.int .u64 e.asid,.bool e.glob,.int .u64 e.pte]
theorem rR (va level:Int) (w:World) (h0:0<=va) (h1:va<=18446744073709551615) (hl:0<=level) (hl':level<=2):
 Calls Tryz.prog 142 #[.int .u64 va,.int .i64 level] w fun e w'=>e=.returned (.int .u64 (fJ va level))∧∃n,w'=w.drewN n:=by
 rcases (show level=0∨level=1∨level=2 by omega) with rfl | rfl | rfl
 ·go_enter Tryz.func142,Tryz.ntmps142;go_wp2_with fail;refine (bK va 6 14 64 512 w h0 h1 (by omega) (by omega) (by omega) (by omega) rfl rfl).mono ?_;rintro e w' ⟨rfl,nq,rfl⟩;go_wp2_with fail;go_ret;exact ⟨rfl,nq,rfl⟩
 ·go_enter Tryz.func142,Tryz.ntmps142;go_wp2_with fail;refine (bK va 9 14 512 64 w h0 h1 (by omega) (by omega) (by omega) (by omega) rfl rfl).mono ?_;rintro e w' ⟨rfl,nq,rfl⟩;go_wp2_with fail;go_ret;exact ⟨rfl,nq,rfl⟩
 ·go_enter Tryz.func142,Tryz.ntmps142;go_wp2_with fail;refine (bK va 12 14 4096 8 w h0 h1 (by omega) (by omega) (by omega) (by omega) rfl rfl).mono ?_;rintro e w' ⟨rfl,nq,rfl⟩;go_wp2_with fail;go_ret;exact ⟨rfl,nq,rfl⟩
theorem kz (x:EntM) (p:Bool) (w:World) (hx:eU x):
 Calls Tryz.prog 141 #[mq x,.bool p] w fun e w'=>e=.returned (.bool (aY x p))∧Bw w w':=by
 obtain ⟨v,lv,tg,asd,gl,pt⟩:=x;obtain ⟨⟨a1,a2⟩,⟨b1,b2⟩,⟨c1,c2⟩,d1,d2⟩:=hx;simp only at a1 a2 b1 b2 c1 c2 d1 d2;unfold mq aY;simp only;have n1:=(Below.refl w.heap.size w).alloc nle (Obj.cells #[.bool v,.int .i64 lv,.int .u64 tg,.int .u64 asd,.bool gl,.int .u64 pt] 121);cases v
 ·cases p;all_goals
   go_enter Tryz.func141,Tryz.ntmps141;go_wp2_with fail;go_quiet (fail);go_wp2_with fail;go_ret;exact ⟨aE (by simp),below_drewN n1 nq⟩
 by_cases h0n:¬(0<=lv)
 ·have h0:=h0n;have h0':decide (0<=lv)=false:=by simpa using h0
  cases p;all_goals
   go_enter Tryz.func141,Tryz.ntmps141;go_wp2_with fail;go_quiet (fail);go_wp2_with fail;go_ret;exact ⟨aE (by simp [h0']),below_drewN n1 nq⟩
 have h0:=Decidable.not_not.1 h0n;clear h0n;by_cases h2n:¬(lv<=2)
 ·have h2:=h2n;have h2':decide (lv<=2)=false:=by simpa using h2
  cases p;all_goals
   go_enter Tryz.func141,Tryz.ntmps141;go_wp2_with fail;go_quiet (fail);go_wp2_with fail;go_ret;exact ⟨aE (by simp [h2']),below_drewN n1 nq⟩
 have h2:=Decidable.not_not.1 h2n;clear h2n;obtain ⟨g5,hg5⟩:∃g5,bR pt 32=g5:=⟨_,rfl⟩;obtain ⟨kd,hkd⟩:∃kd,bC pt lv=kd:=⟨_,rfl⟩;rw [hg5,hkd];have HC5:Hid (∀w:World,Calls Tryz.prog 92 #[.int .u64 pt,.int .i64 5] w fun e w'=>e=.returned (.bool g5)∧∃n,w'=w.drewN n):=fun w=>by
  have:=bQ pt 5 32 w d1 d2 (by omega) (by omega) rfl;rw [hg5] at this;exact this
 have HC6:Hid (∀w:World,Calls Tryz.prog 119 #[.int .u64 pt,.int .i64 lv] w fun e w'=>e=.returned (.int .i64 kd)∧∃n,w'=w.drewN n):=fun w=>by
  have:=fI pt lv w d1 d2 a1 a2;rw [hkd] at this;exact this
 clear hg5 hkd;rcases (show lv=0∨lv=1∨lv=2 by omega) with rfl | rfl | rfl
 ·by_cases htn:¬(tg<512)
  ·have ht:=htn;have ht':decide (tg<512)=false:=by simpa using ht
   cases p;all_goals
    go_enter Tryz.func141,Tryz.ntmps141;go_wp2_with fail;go_quiet (first
    | (go_at_call 57;exact Calls.quiet_of_same (bV 9 512 _ (by omega) rfl))
    | (go_at_call 92;exact Calls.quiet_of (HC5.out _))
    | (go_at_call 119;exact Calls.quiet_of (HC6.out _)))
    go_wp2_with fail;go_ret;exact ⟨aE (by simp [kQ,iu,ht']),below_drewN n1 nq⟩
  have ht:=Decidable.not_not.1 htn;clear htn;by_cases han:¬(asd<=65535)
  ·have ha:=han;have ha':decide (asd<=65535)=false:=by simpa using ha
   cases p;all_goals
    go_enter Tryz.func141,Tryz.ntmps141;go_wp2_with fail;go_quiet (first
    | (go_at_call 57;exact Calls.quiet_of_same (bV 9 512 _ (by omega) rfl))
    | (go_at_call 92;exact Calls.quiet_of (HC5.out _))
    | (go_at_call 119;exact Calls.quiet_of (HC6.out _)))
    go_wp2_with fail;go_ret;exact ⟨aE (by simp [kQ,iu,ht,ha']),below_drewN n1 nq⟩
  have ha:=Decidable.not_not.1 han;clear han;cases p <;> cases gl <;> cases g5;all_goals
   go_enter Tryz.func141,Tryz.ntmps141;go_wp2_with fail;go_quiet (first
    | (go_at_call 57;exact Calls.quiet_of_same (bV 9 512 _ (by omega) rfl))
    | (go_at_call 92;exact Calls.quiet_of (HC5.out _))
    | (go_at_call 119;exact Calls.quiet_of (HC6.out _)))
   go_wp2_with fail;go_ret;exact ⟨aE (by simp [kQ,iu,ht,ha]),below_drewN n1 nq⟩
 ·by_cases htn:¬(tg<64)
  ·have ht:=htn;have ht':decide (tg<64)=false:=by simpa using ht
   cases p;all_goals
    go_enter Tryz.func141,Tryz.ntmps141;go_wp2_with fail;go_quiet (first
    | (go_at_call 57;exact Calls.quiet_of_same (bV 6 64 _ (by omega) rfl))
    | (go_at_call 92;exact Calls.quiet_of (HC5.out _))
    | (go_at_call 119;exact Calls.quiet_of (HC6.out _)))
    go_wp2_with fail;go_ret;exact ⟨aE (by simp [kQ,iu,ht']),below_drewN n1 nq⟩
  have ht:=Decidable.not_not.1 htn;clear htn;by_cases han:¬(asd<=65535)
  ·have ha:=han;have ha':decide (asd<=65535)=false:=by simpa using ha
   cases p;all_goals
    go_enter Tryz.func141,Tryz.ntmps141;go_wp2_with fail;go_quiet (first
    | (go_at_call 57;exact Calls.quiet_of_same (bV 6 64 _ (by omega) rfl))
    | (go_at_call 92;exact Calls.quiet_of (HC5.out _))
    | (go_at_call 119;exact Calls.quiet_of (HC6.out _)))
    go_wp2_with fail;go_ret;exact ⟨aE (by simp [kQ,iu,ht,ha']),below_drewN n1 nq⟩
  have ha:=Decidable.not_not.1 han;clear han;cases p <;> cases gl <;> cases g5;all_goals
   go_enter Tryz.func141,Tryz.ntmps141;go_wp2_with fail;go_quiet (first
    | (go_at_call 57;exact Calls.quiet_of_same (bV 6 64 _ (by omega) rfl))
    | (go_at_call 92;exact Calls.quiet_of (HC5.out _))
    | (go_at_call 119;exact Calls.quiet_of (HC6.out _)))
   go_wp2_with fail;go_ret;exact ⟨aE (by simp [kQ,iu,ht,ha]),below_drewN n1 nq⟩
 ·by_cases htn:¬(tg<8)
  ·have ht:=htn;have ht':decide (tg<8)=false:=by simpa using ht
   cases p;all_goals
    go_enter Tryz.func141,Tryz.ntmps141;go_wp2_with fail;go_quiet (first
    | (go_at_call 57;exact Calls.quiet_of_same (bV 3 8 _ (by omega) rfl))
    | (go_at_call 92;exact Calls.quiet_of (HC5.out _))
    | (go_at_call 119;exact Calls.quiet_of (HC6.out _)))
    go_wp2_with fail;go_ret;exact ⟨aE (by simp [kQ,iu,ht']),below_drewN n1 nq⟩
  have ht:=Decidable.not_not.1 htn;clear htn;by_cases han:¬(asd<=65535)
  ·have ha:=han;have ha':decide (asd<=65535)=false:=by simpa using ha
   cases p;all_goals
    go_enter Tryz.func141,Tryz.ntmps141;go_wp2_with fail;go_quiet (first
    | (go_at_call 57;exact Calls.quiet_of_same (bV 3 8 _ (by omega) rfl))
    | (go_at_call 92;exact Calls.quiet_of (HC5.out _))
    | (go_at_call 119;exact Calls.quiet_of (HC6.out _)))
    go_wp2_with fail;go_ret;exact ⟨aE (by simp [kQ,iu,ht,ha']),below_drewN n1 nq⟩
  have ha:=Decidable.not_not.1 han;clear han;cases p <;> cases gl <;> cases g5;all_goals
   go_enter Tryz.func141,Tryz.ntmps141;go_wp2_with fail;go_quiet (first
    | (go_at_call 57;exact Calls.quiet_of_same (bV 3 8 _ (by omega) rfl))
    | (go_at_call 92;exact Calls.quiet_of (HC5.out _))
    | (go_at_call 119;exact Calls.quiet_of (HC6.out _)))
   go_wp2_with fail;go_ret;exact ⟨aE (by simp [kQ,iu,ht,ha]),below_drewN n1 nq⟩
structure Lies (v:World) where
 w:World
 h:Bw v w
theorem db (v:World):Nonempty (Lies v):=⟨⟨v,Below.refl _ _⟩⟩
theorem cH {P:Program} {f:FuncId} {args:Array Value} {v:World} (u:Lies v) {x:Value} (h:Calls P f args u.w fun e w'=>e=.returned x∧Below u.w.heap.size u.w w'):
 Calls P f args u.w fun e w''=>e=.returned x∧∃u':Lies v,w''=u'.w:=
 h.mono fun e w' ⟨he,hb⟩=>⟨he,⟨w',bst u.h hb⟩,rfl⟩
theorem jA {P:Program} {f:FuncId} {args:Array Value} {v:World} (u:Lies v) {x:Value} (h:Calls P f args u.w fun e w'=>e=.returned x∧w'=u.w):
 Calls P f args u.w fun e w''=>e=.returned x∧∃u':Lies v,w''=u'.w:=
 h.mono fun e w' ⟨he,hb⟩=>⟨he,u,hb⟩
theorem tp {P:Program} {f:FuncId} {args:Array Value} {v:World} (u:Lies v) {x:Value} (h:Calls P f args u.w fun e w'=>e=.returned x∧∃n,w'=u.w.drewN n):
 Calls P f args u.w fun e w''=>e=.returned x∧∃u':Lies v,w''=u'.w:=
 h.mono fun e w' ⟨he,n,hb⟩=>⟨he,⟨w',by rw [hb];exact below_drewN u.h n⟩,rfl⟩
theorem aD {v:World} {b o:Nat} {x:Value} (hc:v.cell? ⟨b,o,none⟩=some x) (hb:b<v.heap.size) (u:Lies v):u.w.cell? ⟨b,o,none⟩=some x:=Below.cell2 u.h hc hb
theorem bD {P:Program} {id:Nat} {Q:Exit->Act->World->Prop} {a:Act} {w:World} {l:List Oper} (hm:P.follows .mixedOrders=true) (hB:Region.lexB .any l.toArray=true)
 (h:wpQuiet P l.toArray (fun w'=>∃u:Lies w,w'=u.w) (fun a'=>∀w',(∃u:Lies w,w'=u.w)->Q .normal a' w') l a):(Code.region id l.toArray true).wp P Q a w:=
 wp_region_quiet (C:=fun w'=>∃u:Lies w,w'=u.w) hm hB ⟨⟨w.drew,(Below.refl _ _).drew⟩,rfl⟩ (by simpa using h)
section
attribute [local go_sem ↓] Go.wp_at_zero Go.wp_at_succ
def aR:List EntM->List Value
 | []=>[]
 | e::r=>jr e++aR r
def TlbAt (w:World) (v:Value) (t:TlbM):Prop:=
 ∃a cap,v=.agg #[.int .i64 t.sets,.int .i64 t.ways,.slice a t.es.length cap]∧RowC w a t.es.length 6 (aR t.es)∧(∀e∈t.es,eU e)∧
  (-9223372036854775808<=t.sets∧t.sets<=9223372036854775807)∧(-9223372036854775808<=t.ways∧t.ways<=9223372036854775807)∧t.es.length<=1048576∧t.es.length<=cap∧cap<=9223372036854775807∧(a=none->t.es.length=0∧cap=0)∧(∀q,a=some q->q.spot=none)
theorem fo:∀es:List EntM,(aR es).length=es.length*6
 | []=>rfl
 | e::r=>by simp [aR,jr,fo r];omega
theorem rH:∀(es:List EntM) (i j:Nat) (hi:i<es.length),j<6->(aR es)[i*6+j]?=(jr es[i])[j]?
 | e::r,0,j,hi,hj=>by
  simp only [aR,List.getElem_cons_zero,Nat.zero_mul,Nat.zero_add];rw [List.getElem?_append_left (by simp [jr];exact hj)]
 | e::r,i+1,j,hi,hj=>by
  simp only [aR,List.getElem_cons_succ];rw [List.getElem?_append_right (by simp [jr];omega)];have:(i+1)*6+j-(jr e).length=i*6+j:=by simp [jr];omega
  rw [this];exact rH r i j (by simpa using hi) hj
def iU (t:TlbM):Bool:=decide ((t.sets=1∨t.sets=2∨t.sets=4∨t.sets=8)∧1<=t.ways∧t.ways<=4∧(t.es.length:Int)=t.sets*t.ways)
def cy (t:TlbM) (p:Bool) (i:Nat) (e:EntM):Bool:=
 (e.valid == false && e.level == 0 && e.tag == 0 && e.asid == 0 && e.glob == false && e.pte == 0) || (aY e p && (e.tag%t.sets == (i:Int)/t.ways))
def fL (t:TlbM) (p:Bool):Nat->List EntM->Bool
 | _,[]=>true
 | i,e::r=>cy t p i e && fL t p (i+1) r
def aQ (t:TlbM) (p:Bool):Bool:=iU t && fL t p 0 t.es
theorem fM (t:TlbM) (p:Bool):∀(es:List EntM) (i:Nat),(∀j x,es[j]?=some x->cy t p (i+j) x=true)->fL t p i es=true
 | [],i,h=>rfl
 | e::r,i,h=>by
  simp only [fL,Bool.and_eq_true];refine ⟨by simpa using h 0 e rfl,fM t p r (i+1) (fun j x hx=>?_)⟩;have:=h (j+1) x (by simpa using hx);rw [show i+1+j=i+(j+1) by omega];exact this
theorem ik (t:TlbM) (p:Bool):∀(es:List EntM) (i j:Nat) (x:EntM),es[j]?=some x->cy t p (i+j) x=false->fL t p i es=false
 | e::r,i,0,x,hx,h=>by
  simp at hx;subst hx;simp only [fL,Nat.add_zero] at h |-;rw [h];rfl
 | e::r,i,j+1,x,hx,h=>by
  simp only [fL];rw [ik t p r (i+1) j x (by simpa using hx) (by rw [show i+1+j=i+(j+1) by omega];exact h),Bool.and_false]
theorem vU {x:EntM} {p:Bool} (h:aY x p=true):x.tag<512:=by
 simp only [aY,Bool.and_eq_true,decide_eq_true_eq] at h;have h1:=h.1.1.1.2;unfold kQ at h1;split at h1
 ·exact h1
 ·split at h1 <;> omega
theorem eu {w:World} {b off n:Nat} {es:List EntM} (h:RowC w (some ⟨b,off,none⟩) n 6 (aR es)) (hn:es.length=n) (k:Nat) (x:EntM) (hx:es[k]?=some x) (j:Nat) (v:Value) (hj:j<6) (hv:(jr x)[j]?=some v):
 w.cell? ⟨b,off+(k*6+j),none⟩=some v:=by
 have hk:=(List.getElem?_eq_some_iff.1 hx).1;rcases h.2 with h0 | ⟨b',off',e,_,hc⟩
 ·omega
 ·simp at e;obtain ⟨rfl,rfl⟩:=e;refine hc _ _ ?_;rw [rH es k j hk hj];rw [List.getElem?_eq_getElem hk] at hx;simp at hx;rw [hx];exact hv
theorem vV (s:Int) (hs:s=1∨s=2∨s=4∨s=8) (b off:Nat) (cap:Nat) (ways:Int) (es:List EntM) (n:Nat) (p:Bool) (w:World) (hr:RowC w (some ⟨b,off,none⟩) n 6 (aR es)) (he:∀e∈es,eU e) (hl:n<=1048576) (hN:es.length=n)
 (hw:1<=ways) (hw':ways<=4) (hn:(n:Int)=s*ways):
  Calls Tryz.prog 135 #[.agg #[.int .i64 s,.int .i64 ways,.slice (some ⟨b,off,none⟩) n cap],.bool p] w fun e w'=>e=.returned (.bool (fL ⟨s,ways,es⟩ p 0 es))∧Bw w w':=by
 have a1:=fF w #[.int .i64 s,.int .i64 ways,.slice (some ⟨b,off,none⟩) n cap] 37;have hn':((n:Int) != s*ways)=false:=by rw [bne_eq_false_iff_eq];omega
 have HN:Hid (es.length=n):=hN;have HR:=hid hr;have HE:=hid he;obtain ⟨R,hR⟩:∃R,fL ⟨s,ways,es⟩ p 0 es=R:=⟨_,rfl⟩;rw [hR];have HP:=hid hR;clear hN hr he hn hR;go_enter Tryz.func135,Tryz.ntmps135;go_upto_region 1 with fail;generalize w.alloc (Obj.cells #[.int .i64 s,.int .i64 ways,.slice (some ⟨b,off,none⟩) n cap] 37)=v1 at a1 |-;obtain ⟨l1,c1,n1⟩:=a1;have c10:=c1 0;have c11:=c1 1;have c12:=c1 2;clear c1;go_cut [45] from 7 to 44 (fun x wx=>x=.bool false∧v1=wx)
 case first=>
  clear HP;rcases hs with rfl | rfl | rfl | rfl <;> (try simp only [Int.one_mul] at hn') <;> (go_wp2_with fail;go_meet;case rel=>exact ⟨by first | rfl | (rw [hn'];done) | (simp;omega),rfl⟩)
 case rest=>
 obtain ⟨rfl,rfl⟩:=hcut;go_wp2_with fail;go_loopw [5] (fun i wr=>∃k:Nat,k<=n∧i=.int .i64 k∧(∀j x,j<k->es[j]?=some x->cy ⟨s,ways,es⟩ p j x=true)∧Bw v1 wr) (fun i _=>n-(intOf i).toNat)
 case atStart=>exact ⟨0,Nat.zero_le _,rfl,fun j x hj=>absurd hj (by omega),Below.refl _ _⟩
 case round=>
  obtain ⟨k,hk,rfl,hall,hb⟩:=hrel;have HA:=hid hall;clear hall;have d10:=Below.cell2 hb c10 l1;have d11:=Below.cell2 hb c11 l1;have d12:=Below.cell2 hb c12 l1;have l2:=Nat.lt_of_lt_of_le l1 hb.size;have n1r:=bst n1 hb;by_cases hlt:k<n
  ·have hx:∃x:EntM,es[k]?=some x:=⟨_,List.getElem?_eq_getElem (by have:=HN.out;omega)⟩;obtain ⟨⟨v,lv,tg,asd,gl,pt⟩,hx⟩:=hx;have hok:eU ⟨v,lv,tg,asd,gl,pt⟩:=HE.out _ (List.mem_of_getElem? hx);have HRr:=RowC.keep HR.out n1r;have g0:wr.cell? ⟨b,off+k*6,none⟩=some (.bool v):=eu HRr HN.out k _ hx 0 _ (by omega) rfl;have g1:wr.cell? ⟨b,off+k*6+1,none⟩=some (.int .i64 lv):=eu HRr HN.out k _ hx 1 _ (by omega) rfl;have g2:wr.cell? ⟨b,off+k*6+2,none⟩=some (.int .u64 tg):=eu HRr HN.out k _ hx 2 _ (by omega) rfl;have g3:wr.cell? ⟨b,off+k*6+3,none⟩=some (.int .u64 asd):=eu HRr HN.out k _ hx 3 _ (by omega) rfl;have g4:wr.cell? ⟨b,off+k*6+4,none⟩=some (.bool gl):=eu HRr HN.out k _ hx 4 _ (by omega) rfl;have g5:wr.cell? ⟨b,off+k*6+5,none⟩=some (.int .u64 pt):=eu HRr HN.out k _ hx 5 _ (by omega) rfl;have HX:Hid (es[k]?=some ⟨v,lv,tg,asd,gl,pt⟩):=hx;have HPf:Hid (cy ⟨s,ways,es⟩ p k ⟨v,lv,tg,asd,gl,pt⟩=false->false=R):=fun h=>by rw [<-HP.out];exact (ik _ p es 0 k _ hx (by rw [Nat.zero_add];exact h)).symm
   have HPt:Hid (cy ⟨s,ways,es⟩ p k ⟨v,lv,tg,asd,gl,pt⟩=true->∀j x,j<k+1->es[j]?=some x->cy ⟨s,ways,es⟩ p j x=true):=fun h j x hj hx'=>by
    by_cases e:j=k
    ·subst e;rw [hx] at hx';cases hx';exact h
    ·exact HA.out j x (by omega) hx'
   clear hx HRr;have a2:=fF wr #[.bool v,.int .i64 lv,.int .u64 tg,.int .u64 asd,.bool gl,.int .u64 pt] 121;go_wp2_with fail;generalize wr.alloc (Obj.cells #[.bool v,.int .i64 lv,.int .u64 tg,.int .u64 asd,.bool gl,.int .u64 pt] 121)=v2 at a2 |-;obtain ⟨l3,c2,n2⟩:=a2;have k0:=aD (c2 0) l3;have k1:=aD (c2 1) l3;have k2:=aD (c2 2) l3;have k3:=aD (c2 3) l3;have k4:=aD (c2 4) l3;have k5:=aD (c2 5) l3;have j0:=aD (Below.cell2 n2 d10 l2) (Nat.lt_trans l2 l3);have j1:=aD (Below.cell2 n2 d11 l2) (Nat.lt_trans l2 l3);have hb2:=bst hb n2;have n12:=bst n1 hb2;have ne:=db v2;clear c2 d10 d11 d12 hb n2 g0 g1 g2 g3 g4 g5 c10 c11 c12 n1r;obtain ⟨gd,hgd⟩:∃gd,aY ⟨v,lv,tg,asd,gl,pt⟩ p=gd:=⟨_,rfl⟩;have HGd:Hid (∀u:Lies v2,Calls Tryz.prog 141 #[mq ⟨v,lv,tg,asd,gl,pt⟩,.bool p] u.w fun e w'=>e=.returned (.bool gd)∧Below u.w.heap.size u.w w'):=fun u=>by
    have:=kz ⟨v,lv,tg,asd,gl,pt⟩ p u.w hok;rw [hgd] at this;exact this
   have HGv:Hid (aY ⟨v,lv,tg,asd,gl,pt⟩ p=gd):=hgd;clear hgd;cases v
   ·have hgf:gd=false:=by rw [<-HGv.out];simp [aY]
    subst hgf;by_cases q1n:¬(lv=0)
    ·have q1:(lv == 0)=false:=by simpa using q1n
     have HQ:Hid ((lv == 0)=false):=q1;clear q1n;refine bD (by kernel_rfl) (by kernel_rfl) ?_;repeat (go_big_quiet_step ((go_at_call 141;exact cH _ (HGd.out _))))
     refine wpQuiet_nil ?_;rintro _ ⟨u,rfl⟩;go_wp2_with fail;go_ret;exact ⟨aE (HPf.out (by simp [cy,HGv.out,HQ.out])),bst n12 u.h⟩
    have q1z:lv=0:=Decidable.not_not.1 q1n;subst q1z;clear q1n;by_cases q2n:¬(tg=0)
    ·have q2:(tg == 0)=false:=by simpa using q2n
     have HQ:Hid ((tg == 0)=false):=q2;clear q2n;refine bD (by kernel_rfl) (by kernel_rfl) ?_;repeat (go_big_quiet_step ((go_at_call 141;exact cH _ (HGd.out _))))
     refine wpQuiet_nil ?_;rintro _ ⟨u,rfl⟩;go_wp2_with fail;go_ret;exact ⟨aE (HPf.out (by simp [cy,HGv.out,HQ.out])),bst n12 u.h⟩
    have q2z:tg=0:=Decidable.not_not.1 q2n;subst q2z;clear q2n;by_cases q3n:¬(asd=0)
    ·have q3:(asd == 0)=false:=by simpa using q3n
     have HQ:Hid ((asd == 0)=false):=q3;clear q3n;refine bD (by kernel_rfl) (by kernel_rfl) ?_;repeat (go_big_quiet_step ((go_at_call 141;exact cH _ (HGd.out _))))
     refine wpQuiet_nil ?_;rintro _ ⟨u,rfl⟩;go_wp2_with fail;go_ret;exact ⟨aE (HPf.out (by simp [cy,HGv.out,HQ.out])),bst n12 u.h⟩
    have q3z:asd=0:=Decidable.not_not.1 q3n;subst q3z;clear q3n;cases hgl:gl
    ·subst hgl;by_cases q5n:¬(pt=0)
     ·have q5:(pt == 0)=false:=by simpa using q5n
      have HQ:Hid ((pt == 0)=false):=q5;clear q5n;refine bD (by kernel_rfl) (by kernel_rfl) ?_;repeat (go_big_quiet_step ((go_at_call 141;exact cH _ (HGd.out _))))
      refine wpQuiet_nil ?_;rintro _ ⟨u,rfl⟩;go_wp2_with fail;go_ret;exact ⟨aE (HPf.out (by simp [cy,HGv.out,HQ.out])),bst n12 u.h⟩
     have q5z:pt=0:=Decidable.not_not.1 q5n;subst q5z;clear q5n;refine bD (by kernel_rfl) (by kernel_rfl) ?_;repeat (go_big_quiet_step ((go_at_call 141;exact cH _ (HGd.out _))))
     refine wpQuiet_nil ?_;rintro _ ⟨u,rfl⟩;go_wp2_with fail;go_roundw
     case rel=>exact ⟨k+1,by omega,by go_num,HPt.out (by simp [cy]),bst hb2 u.h⟩
     case measure=>simp [intOf];omega
    ·subst hgl;refine bD (by kernel_rfl) (by kernel_rfl) ?_;repeat (go_big_quiet_step ((go_at_call 141;exact cH _ (HGd.out _))))
     refine wpQuiet_nil ?_;rintro _ ⟨u,rfl⟩;go_wp2_with fail;go_ret;exact ⟨aE (HPf.out (by simp [cy,HGv.out])),bst n12 u.h⟩
   ·cases gd
    ·
     refine bD (by kernel_rfl) (by kernel_rfl) ?_;repeat (go_big_quiet_step ((go_at_call 141;exact cH _ (HGd.out _))))
     refine wpQuiet_nil ?_;rintro _ ⟨u,rfl⟩;go_wp2_with fail;go_ret;exact ⟨aE (HPf.out (by simp [cy,HGv.out])),bst n12 u.h⟩
    ·have htg:tg<512:=vU HGv.out;have htg0:0<=tg:=hok.2.1.1;have hd0:0<=(k:Int)/ways:=Int.ediv_nonneg (by omega) (by omega);have hd1:(k:Int)/ways<=1048576:=Int.le_trans (Int.ediv_le_self _ (by omega)) (by omega);by_cases hq:tg%s=(k:Int)/ways
     ·have hq':(tg%s != (k:Int)/ways)=false:=by rw [bne_eq_false_iff_eq];exact hq
      have HQ:Hid (tg%s=(k:Int)/ways):=hq;clear hq;rcases hs with rfl | rfl | rfl | rfl;all_goals
       try rw [Int.emod_one] at hq'
       refine bD (by kernel_rfl) (by kernel_rfl) ?_;repeat (go_big_quiet_step ((go_at_call 141;exact cH _ (HGd.out _))))
       refine wpQuiet_nil ?_;rintro _ ⟨u,rfl⟩;go_wp2_with fail;go_roundw
       case rel=>exact ⟨k+1,by omega,by go_num,HPt.out (by have hz:=HQ.out;first | (simp [cy,HGv.out,hz];done) | (rw [Int.emod_one] at hz;simp [cy,HGv.out,hz])),bst hb2 u.h⟩
       case measure=>simp [intOf];omega
     ·have hq':(tg%s != (k:Int)/ways)=true:=by rw [bne_iff_ne];exact hq
      have HQ:Hid (¬tg%s=(k:Int)/ways):=hq;clear hq;rcases hs with rfl | rfl | rfl | rfl;all_goals
       try rw [Int.emod_one] at hq'
       refine bD (by kernel_rfl) (by kernel_rfl) ?_;repeat (go_big_quiet_step ((go_at_call 141;exact cH _ (HGd.out _))))
       refine wpQuiet_nil ?_;rintro _ ⟨u,rfl⟩;go_wp2_with fail;go_ret;exact ⟨aE (HPf.out (by have hz:=HQ.out;first | (simp [cy,hz];done) | (rw [Int.emod_one] at hz;simp [cy,hz]))),bst n12 u.h⟩
  ·have hkn:k=n:=by omega
   subst hkn;have HT:Hid (true=R):=by
    show true=R;rw [<-HP.out];exact (fM _ p es 0 (fun j x hx=>by rw [Nat.zero_add];exact HA.out j x (by have h1:=(List.getElem?_eq_some_iff.1 hx).1;have h2:=HN.out;omega) hx)).symm
   clear c10 c11 c12 n1 d10 d11;go_wp2_with fail;go_ret;exact ⟨aE HT.out,n1r⟩
end
end Go.Proofs.YtpdddbobhndbjaaGreat
