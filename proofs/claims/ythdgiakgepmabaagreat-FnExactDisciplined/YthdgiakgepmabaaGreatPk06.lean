import Derived.Test.YthdgiakgepmabaaGreatPk05
namespace Go.Proofs.YthdgiakgepmabaaGreat
open Go.RowKit
set_option linter.unusedVariables false
set_option maxHeartbeats 6400000
set_option maxRecDepth 20000
def dP (x kind:Int) (mxr:Bool):Bool:=if kind=0 then aZ x 8 else if kind=1 then aZ x 2 || (mxr && aZ x 8) else if kind=2 then aZ x 4 else false
theorem gH (x kind:Int) (mxr:Bool) (w:World) (h0:0<=x) (h1:x<=18446744073709551615):
 Calls Tryz.prog 173 #[VU x,VI kind,.bool mxr] w fun e w'=>e=.returned (.bool (dP x kind mxr))∧w'=w:=by
 have HR:=hid (bX 1 x 2 rfl (by omega) h0 h1);have HW:=hid (bX 2 x 4 rfl (by omega) h0 h1);have HX:=hid (bX 3 x 8 rfl (by omega) h0 h1);by_cases k0:kind=0
 ·subst k0;go_enter Tryz.func173,Tryz.ntmps173;go_wp2_with (go_at_call 129;refine (bR x _ _).mono ?_;rintro e w' ⟨rfl,rfl⟩;rw [HX.out]);go_ret;exact ⟨rfl,rfl⟩
 have k0':(kind == 0)=false:=by simpa using k0
 by_cases k1:kind=1
 ·subst k1;cases hr:aZ x 2 <;> cases mxr;all_goals
   go_enter Tryz.func173,Tryz.ntmps173;go_wp2_with (go_at_call 129;refine (bR x _ _).mono ?_;rintro e w' ⟨rfl,rfl⟩;first | rw [HR.out,hr] | rw [HX.out]);go_ret;exact ⟨aR (by simp [dP,hr]),rfl⟩
 have k1':(kind == 1)=false:=by simpa using k1
 by_cases k2:kind=2
 ·subst k2;go_enter Tryz.func173,Tryz.ntmps173;go_wp2_with (go_at_call 129;refine (bR x _ _).mono ?_;rintro e w' ⟨rfl,rfl⟩;rw [HW.out]);go_ret;exact ⟨rfl,rfl⟩
 have k2':(kind == 2)=false:=by simpa using k2
 have HE:Hid (dP x kind mxr=false):=by show _=_;rw [dP,if_neg k0,if_neg k1,if_neg k2]
 clear k0 k1 k2;go_enter Tryz.func173,Tryz.ntmps173;go_wp2;go_ret;exact ⟨aR HE.out.symm,rfl⟩
def dQ (x kind mode:Int) (sum:Bool):Bool:=if mode=0 then aZ x 16 else if mode=1 then !aZ x 16 || (sum && kind != 0) else false
theorem jJ (x kind mode:Int) (sum:Bool) (w:World) (h0:0<=x) (h1:x<=18446744073709551615):
 Calls Tryz.prog 174 #[VU x,VI kind,VI mode,.bool sum] w fun e w'=>e=.returned (.bool (dQ x kind mode sum))∧w'=w:=by
 have HU:=hid (bX 4 x 16 rfl (by omega) h0 h1);by_cases k0:mode=0
 ·subst k0;go_enter Tryz.func174,Tryz.ntmps174;go_wp2_with (go_at_call 129;refine (bR x _ _).mono ?_;rintro e w' ⟨rfl,rfl⟩;rw [HU.out]);go_ret;exact ⟨rfl,rfl⟩
 have k0':(mode == 0)=false:=by simpa using k0
 by_cases k1:mode=1
 ·subst k1;cases hu:aZ x 16 <;> cases sum;all_goals
   go_enter Tryz.func174,Tryz.ntmps174;go_wp2_with (go_at_call 129;refine (bR x _ _).mono ?_;rintro e w' ⟨rfl,rfl⟩;rw [HU.out,hu]);all_goals
    go_ret;exact ⟨aR (by simp_all [dQ]),rfl⟩
 have k1':(mode == 1)=false:=by simpa using k1
 have HE:Hid (dQ x kind mode sum=false):=by show _=_;rw [dQ,if_neg k0,if_neg k1]
 clear k0 k1;go_enter Tryz.func174,Tryz.ntmps174;go_wp2;go_ret;exact ⟨aR HE.out.symm,rfl⟩
def iA (x kind:Int):Bool:=aZ x 64 && (kind != 2 || aZ x 128)
theorem wL (x kind:Int) (w:World) (h0:0<=x) (h1:x<=18446744073709551615):
 Calls Tryz.prog 175 #[VU x,VI kind] w fun e w'=>e=.returned (.bool (iA x kind))∧w'=w:=by
 have HA:=hid (bX 6 x 64 rfl (by omega) h0 h1);have HD:=hid (bX 7 x 128 rfl (by omega) h0 h1);cases ha:aZ x 64
 ·go_enter Tryz.func175,Tryz.ntmps175;go_wp2_with (go_at_call 129;refine (bR x _ _).mono ?_;rintro e w' ⟨rfl,rfl⟩;rw [HA.out,ha]);go_ret;exact ⟨aR (by simp [iA,ha]),rfl⟩
 ·cases hk:(kind != 2)
  ·go_enter Tryz.func175,Tryz.ntmps175;go_wp2_with (go_at_call 129;refine (bR x _ _).mono ?_;rintro e w' ⟨rfl,rfl⟩;first | rw [HA.out,ha] | rw [HD.out]);go_ret;exact ⟨aR (by simp [iA,ha,hk]),rfl⟩
  ·go_enter Tryz.func175,Tryz.ntmps175;go_wp2_with (go_at_call 129;refine (bR x _ _).mono ?_;rintro e w' ⟨rfl,rfl⟩;first | rw [HA.out,ha] | rw [HD.out]);go_ret;exact ⟨aR (by simp [iA,ha,hk]),rfl⟩
theorem lX (x kind mode:Int) (sum mxr:Bool):bZ x kind mode sum mxr=(dP x kind mxr && dQ x kind mode sum && iA x kind):=by
 simp only [bZ,dP,dQ,iA];by_cases k0:kind=0
 ·subst k0;simp only [if_pos];cases aZ x 8 <;> cases aZ x 64 <;> simp <;> split <;> simp
 by_cases k1:kind=1
 ·subst k1;simp only [if_neg k0,if_pos];by_cases m0:mode=0
  ·subst m0;simp
  by_cases m1:mode=1
  ·subst m1;simp
  ·simp [m0,m1]
 by_cases k2:kind=2
 ·subst k2;by_cases m0:mode=0
  ·subst m0;simp;cases aZ x 64 <;> cases aZ x 128 <;> cases aZ x 4 <;> simp
  by_cases m1:mode=1
  ·subst m1;simp;cases aZ x 64 <;> cases aZ x 128 <;> cases aZ x 4 <;> cases aZ x 16 <;> cases sum <;> simp
  ·simp [m0,m1]
 ·simp [k0,k1,k2]
theorem gh (x kind mode:Int) (sum mxr:Bool) (w:World) (h0:0<=x) (h1:x<=18446744073709551615):
 Calls Tryz.prog 167 #[VU x,VI kind,VI mode,.bool sum,.bool mxr] w fun e w'=>e=.returned (.bool (bZ x kind mode sum mxr))∧w'=w:=by
 rw [lX];cases hk:dP x kind mxr
 ·go_enter Tryz.func167,Tryz.ntmps167;go_wp2_with (first
   | (go_at_call 173;refine (gH x kind mxr _ h0 h1).mono ?_;rintro e w' ⟨rfl,rfl⟩;rw [hk]))
  go_ret;exact ⟨aR (by simp),rfl⟩
 cases hm:dQ x kind mode sum
 ·go_enter Tryz.func167,Tryz.ntmps167;go_wp2_with (first
   | (go_at_call 173;refine (gH x kind mxr _ h0 h1).mono ?_;rintro e w' ⟨rfl,rfl⟩;rw [hk])
   | (go_at_call 174;refine (jJ x kind mode sum _ h0 h1).mono ?_;rintro e w' ⟨rfl,rfl⟩;rw [hm]))
  go_ret;exact ⟨aR (by simp),rfl⟩
 ·go_enter Tryz.func167,Tryz.ntmps167;go_wp2_with (first
   | (go_at_call 173;refine (gH x kind mxr _ h0 h1).mono ?_;rintro e w' ⟨rfl,rfl⟩;rw [hk])
   | (go_at_call 174;refine (jJ x kind mode sum _ h0 h1).mono ?_;rintro e w' ⟨rfl,rfl⟩;rw [hm])
   | (go_at_call 175;refine (wL x kind _ h0 h1).mono ?_;rintro e w' ⟨rfl,rfl⟩))
  go_ret;exact ⟨aR (by simp),rfl⟩
theorem iB (level m:Int) (w:World) (h:(level=0∧m=63)∨(level=1∧m=511)∨(level=2∧m=4095)):
 Calls Tryz.prog 185 #[VI level] w fun e w'=>e=.returned (VU m)∧w'=w:=by
 rcases h with ⟨rfl,rfl⟩ | ⟨rfl,rfl⟩ | ⟨rfl,rfl⟩
 ·go_enter Tryz.func185,Tryz.ntmps185;go_wp2_with (go_at_call 88;refine (bQ 6 63 _ (by omega)).mono ?_;rintro e w' ⟨rfl,rfl⟩);go_ret;exact ⟨rfl,rfl⟩
 ·go_enter Tryz.func185,Tryz.ntmps185;go_wp2_with (go_at_call 88;refine (bQ 9 511 _ (by omega)).mono ?_;rintro e w' ⟨rfl,rfl⟩);go_ret;exact ⟨rfl,rfl⟩
 ·go_enter Tryz.func185,Tryz.ntmps185;go_wp2_with (go_at_call 88;refine (bQ 12 4095 _ (by omega)).mono ?_;rintro e w' ⟨rfl,rfl⟩);go_ret;exact ⟨rfl,rfl⟩
theorem zQ (x level va:Int) (w:World) (h0:0<=x) (h1:x<=18446744073709551615) (hl:level=0∨level=1∨level=2) (hv0:0<=va) (hv1:va<=18446744073709551615):
 Calls Tryz.prog 181 #[VU x,VI level,VU va] w fun e w'=>e=.returned (VU (fE x level va))∧w'=w:=by
 have hpp:0<=cx x∧cx x<17592186044416:=⟨Int.emod_nonneg _ (by omega),Int.emod_lt_of_pos _ (by omega)⟩;have HP:∀w,Hid (Calls Tryz.prog 179 #[VU x] w fun e w'=>e=.returned (VU (cx x))∧w'=w):=fun w=>qC x w h0 h1;have HE:Hid (fE x level va=cx x*64/fD level*fD level+va%fD level):=by
  show _=_;rw [fE,if_neg (by omega)]
 rw [HE.out];clear HE;generalize cx x=p at *;rcases hl with rfl | rfl | rfl
 ·have H:Hid (bits .or .u64 (bits .andNot .u64 (p*64) 63) (bits .and .u64 va 63)=p*64/fD 0*fD 0+va%fD 0):=
   jR 6 (p*64) va 63 64 rfl rfl (by omega) (by omega) (by omega) hv0 hv1
  go_enter Tryz.func181,Tryz.ntmps181;go_wp2_with (first
   | (go_at_call 179;refine ((HP _).out).mono ?_;rintro e w' ⟨rfl,rfl⟩)
   | (go_at_call 185;refine (iB 0 63 _ (by omega)).mono ?_;rintro e w' ⟨rfl,rfl⟩))
  go_ret;exact ⟨da H.out,rfl⟩
 ·have H:Hid (bits .or .u64 (bits .andNot .u64 (p*64) 511) (bits .and .u64 va 511)=p*64/fD 1*fD 1+va%fD 1):=
   jR 9 (p*64) va 511 512 rfl rfl (by omega) (by omega) (by omega) hv0 hv1
  go_enter Tryz.func181,Tryz.ntmps181;go_wp2_with (first
   | (go_at_call 179;refine ((HP _).out).mono ?_;rintro e w' ⟨rfl,rfl⟩)
   | (go_at_call 185;refine (iB 1 511 _ (by omega)).mono ?_;rintro e w' ⟨rfl,rfl⟩))
  go_ret;exact ⟨da H.out,rfl⟩
 ·have H:Hid (bits .or .u64 (bits .andNot .u64 (p*64) 4095) (bits .and .u64 va 4095)=p*64/fD 2*fD 2+va%fD 2):=
   jR 12 (p*64) va 4095 4096 rfl rfl (by omega) (by omega) (by omega) hv0 hv1
  go_enter Tryz.func181,Tryz.ntmps181;go_wp2_with (first
   | (go_at_call 179;refine ((HP _).out).mono ?_;rintro e w' ⟨rfl,rfl⟩)
   | (go_at_call 185;refine (iB 2 4095 _ (by omega)).mono ?_;rintro e w' ⟨rfl,rfl⟩))
  go_ret;exact ⟨da H.out,rfl⟩
theorem yC (va level:Int) (w:World) (hv0:0<=va) (hv1:va<=18446744073709551615) (hl:level=0∨level=1∨level=2):
 Calls Tryz.prog 182 #[VU va,VI level] w fun e w'=>e=.returned (VU (vZ va level))∧∃n,w'=w.drewN n:=by
 rcases hl with rfl | rfl | rfl
 ·have H:=hid (db 3 (va/64) 7 rfl (by omega) (by omega) (by omega));go_enter Tryz.func182,Tryz.ntmps182;go_wp2;go_quiet ((go_at_call 88;exact Calls.quiet_of_same (bQ 3 7 _ (by omega))));go_wp2;go_ret;exact ⟨da H.out,nq,rfl⟩
 ·have H:=hid (db 3 (va/512) 7 rfl (by omega) (by omega) (by omega));go_enter Tryz.func182,Tryz.ntmps182;go_wp2;go_quiet ((go_at_call 88;exact Calls.quiet_of_same (bQ 3 7 _ (by omega))));go_wp2;go_ret;exact ⟨da H.out,nq,rfl⟩
 ·have H:=hid (db 3 (va/4096) 7 rfl (by omega) (by omega) (by omega));go_enter Tryz.func182,Tryz.ntmps182;go_wp2;go_quiet ((go_at_call 88;exact Calls.quiet_of_same (bQ 3 7 _ (by omega))));go_wp2;go_ret;exact ⟨da H.out,nq,rfl⟩
theorem Gi (n:Nat):∀(x:Int) (w:World),n<=8->0<=x->x<=18446744073709551615->
 Calls Tryz.prog 124 #[VU x,VI n] w fun e w'=>
  ∃g cap,e=.returned (SL g n cap)∧OwnB 5 w' w.heap.size g n cap (br x n)∧Bw w w':=by
 induction n with
 | zero=>
  intro x w hn h0 h1;go_enter Tryz.func124,Tryz.ntmps124;go_wp2;go_ret;exact ⟨_,_,rfl,OwnB.new _ _ [] 0 rfl (by decide),(brf).alloc nle _⟩
 | succ n ih=>
  intro x w hn h0 h1;have hp:(((n+1:Nat):Int) == 0)=false:=by simp;omega
  have IH:Hid (∀(x:Int) (w:World),n<=8->0<=x->x<=18446744073709551615->
   Calls Tryz.prog 124 #[VU x,VI n] w fun e w'=>
    ∃g cap,e=.returned (SL g n cap)∧OwnB 5 w' w.heap.size g n cap (br x n)∧Bw w w'):=ih
  clear ih;go_enter Tryz.func124,Tryz.ntmps124;go_wp2_with fail;have o1:=OwnB.new 5 w [x%256] 1 rfl (by decide);have n1:Bw w (w.alloc (Obj.cells #[Value.int IntKind.u8 (x%256)] 5)):=(brf).alloc nle _;simp only [List.map_cons,List.map_nil] at o1;generalize w.alloc (Obj.cells #[Value.int IntKind.u8 (x%256)] 5)=v1 at o1 n1 |-;refine (IH.out (x/256) v1 (by omega) (by omega) (by omega)).mono ?_;rintro e v2 ⟨g,cap,rfl,o2,n2⟩;have o3:=o1.keep n2 o1.facts.2.2.1;have f2:=o2.facts;have n3:=bst n1 n2;have hlt:=o3.facts.2.2.1;have b2:=o2.byt (BU (dg n _));clear o1 n1 n2 IH;go_wp2_with (at_builtin;refine dO _ rfl (.tmp 11) (.tmp 16) 22 rfl 5 Tryz.underlying22 Tryz.infoB w.heap.size _ _ _ _ rfl o3 g 0 n cap (br (x/256) n) rfl b2 (by omega) _ _ n3 nle ?_;intro g' cap' v4 o4 n4);go_ret;rw [Nat.add_comm 1 n] at o4;exact ⟨g',cap',GQ (Nat.add_comm 1 n),o4,n4⟩
theorem Hw (b off len cap k g o n capb:Nat) (zs ys:List Int) (w:World) (hz:Byt w (some (AD b off)) len zs) (hy:Byt w (some (AD g o)) n ys) (hl:len<=1048576) (hk:k+n<=len) (hc:len<=cap) (hm:cap<=9223372036854775807):
 Calls Tryz.prog 125 #[.slice (some (AD b off)) len cap,VI k,.slice (some (AD g o)) n capb] w fun e w'=>
  ∃g' cap',e=.returned (SL g' len cap')∧OwnB 5 w' w.heap.size g' len cap' (zs.take k++ys++zs.drop (k+n))∧Bw w w':=by
 have hzl:=hz.1;have hyl:=hy.1;have o1:=OwnB.new 5 w [] 0 rfl (by decide);have n1:Bw w (w.alloc (Obj.cells #[] 5)):=(brf).alloc nle _;simp only [List.map_nil] at o1;have x1:=(hz.take k (by omega)).keep n1;have fin:∀(a:Option Addr),(k+n<len->a=some ⟨b,off+(k+n),none⟩)->∀v:World,Bw w v->Byt v a (len-(k+n)) (zs.drop (k+n)):=fun a ha v hv=>
  (hz.drop (k+n) (len-(k+n)) hk rfl a ha).keep hv
 have FIN:Hid _:=fin;have hlen:k+n+(len-(k+n))=len:=by omega
 have HL:=hid hlen;clear fin hlen;by_cases hcc:cap=k+n
 ·subst hcc;go_enter Tryz.func125,Tryz.ntmps125;go_wp2_with (first
   | (at_builtin;refine dO _ rfl (.tmp 8) (.tmp 11) 22 rfl 5 Tryz.underlying22 Tryz.infoB w.heap.size _ _ _ _ rfl o1 b off k _ (zs.take k) rfl x1 (by omega) _ _ n1 nle ?_;intro g2 cap2 v2 o2 n2;rw [Nat.zero_add] at o2 |-;have y2:=hy.keep n2;clear o1 n1 x1)
   | (at_builtin;refine dO _ rfl (.tmp 13) (.tmp 14) 22 rfl 5 Tryz.underlying22 Tryz.infoB w.heap.size _ _ _ _ rfl o2 g o n _ ys rfl y2 (by omega) _ _ n2 nle ?_;intro g3 cap3 v3 o3 n3;clear o2 n2 y2 hz hy)
   | (at_builtin;refine dO _ rfl (.tmp 16) (.tmp 22) 22 rfl 5 Tryz.underlying22 Tryz.infoB w.heap.size _ _ _ _ rfl o3 b (off) (len-(k+n)) _ (zs.drop (k+n)) rfl (FIN.out _ (fun h=>by omega) _ n3) (by omega) _ _ n3 nle ?_;intro g4 cap4 v4 o4 n4;clear o3 n3))
  go_ret;rw [HL.out] at o4;exact ⟨g4,cap4,GQ (by omega),o4,n4⟩
 ·have hcl:k+n<cap:=by omega
  clear hcc;go_enter Tryz.func125,Tryz.ntmps125;go_wp2_with (first
   | (at_builtin;refine dO _ rfl (.tmp 8) (.tmp 11) 22 rfl 5 Tryz.underlying22 Tryz.infoB w.heap.size _ _ _ _ rfl o1 b off k _ (zs.take k) rfl x1 (by omega) _ _ n1 nle ?_;intro g2 cap2 v2 o2 n2;rw [Nat.zero_add] at o2 |-;have y2:=hy.keep n2;clear o1 n1 x1)
   | (at_builtin;refine dO _ rfl (.tmp 13) (.tmp 14) 22 rfl 5 Tryz.underlying22 Tryz.infoB w.heap.size _ _ _ _ rfl o2 g o n _ ys rfl y2 (by omega) _ _ n2 nle ?_;intro g3 cap3 v3 o3 n3;clear o2 n2 y2 hz hy)
   | (at_builtin;refine dO _ rfl (.tmp 16) (.tmp 22) 22 rfl 5 Tryz.underlying22 Tryz.infoB w.heap.size _ _ _ _ rfl o3 b (off+(k+n)) (len-(k+n)) _ (zs.drop (k+n)) rfl (FIN.out _ (fun _=>rfl) _ n3) (by omega) _ _ n3 nle ?_;intro g4 cap4 v4 o4 n4;clear o3 n3))
  go_ret;rw [HL.out] at o4;exact ⟨g4,cap4,GQ (by omega),o4,n4⟩
theorem Ey (a:Option Addr) (len cap:Nat) (addr n:Int) (w:World) (hl:len<=1048576) (h0:0<=addr) (h1:addr<=18446744073709551615) (h2:0<=n) (h3:n<=18446744073709551615):
 Calls Tryz.prog 75 #[.slice a len cap,VU addr,VU n] w fun e w'=>e=.returned (.bool (fG len addr n))∧w'=w:=by
 by_cases hh:n<=(len:Int);all_goals
  go_enter Tryz.func75,Tryz.ntmps75;go_wp2;all_goals
   go_ret;exact ⟨by simp [fG];try omega,rfl⟩
theorem pw (a:Option Addr) (len cap:Nat) (addr n:Int) (w:World) (hl:len<=1048576) (h0:0<=addr) (h1:addr<=18446744073709551615) (h3:n<=9223372036854775807):
 Calls Tryz.prog 189 #[.slice a len cap,VU addr,VI n] w fun e w'=>e=.returned (.bool (dL len addr n))∧w'=w:=by
 by_cases hn:n=1∨n=2∨n=4∨n=8
 ·rw [<-kR len addr n hn];rcases hn with rfl | rfl | rfl | rfl;all_goals
   go_enter Tryz.func189,Tryz.ntmps189;go_wp2_with (go_at_call 75;refine (Ey _ _ _ _ _ _ hl h0 h1 (by omega) (by omega)).mono ?_;rintro e w' ⟨rfl,rfl⟩);go_ret;exact ⟨rfl,rfl⟩
 ·have n1:(n == 1)=false:=by simp;omega
  have n2:(n == 2)=false:=by simp;omega
  have n4:(n == 4)=false:=by simp;omega
  have n8:(n == 8)=false:=by simp;omega
  have hg:dL len addr n=false:=by simp [dL];omega
  rw [hg];clear hn hg;go_enter Tryz.func189,Tryz.ntmps189;go_wp2;go_ret;exact ⟨rfl,rfl⟩
theorem Dn (b off len cap k:Nat) (zs:List Int) (w:World) (h:Cel w b off len zs) (hk:k<len) (hl:len<=1048576):
 Calls Tryz.prog 108 #[.slice (some (AD b off)) len cap,VU k] w fun e w'=>e=.returned (VU (zs[k]?.getD 0))∧w'=w:=by
 have hcell:=h.2.2 k hk;have hb:=h.2.1 k;obtain ⟨z,hz'⟩:∃z,z=zs[k]?.getD 0:=⟨_,rfl⟩;rw [<-hz'] at hcell hb |-;clear hz' h;go_enter Tryz.func108,Tryz.ntmps108;go_wp2;go_ret;exact ⟨rfl,rfl⟩
theorem py (b off len cap k:Nat) (zs:List Int) (w:World) (h:Cel w b off len zs) (hk:k+2<=len) (hl:len<=1048576):
 Calls Tryz.prog 192 #[.slice (some (AD b off)) len cap,VU k] w fun e w'=>e=.returned (VU (num ((zs.drop k).take 2)))∧w'=w:=by
 have hb1:=h.2.1 k;have hb2:=h.2.1 (k+1);have HF:Hid (bits .or .u64 (zs[k]?.getD 0) (zs[k+1]?.getD 0*256)=num ((zs.drop k).take 2)):=by
  rw [yZ zs k (by have:=h.1;omega)];exact dm 8 256 _ _ rfl hb1.1 (by omega) hb2.1 (by omega) (by omega)
 go_enter Tryz.func192,Tryz.ntmps192;go_wp2_with fail;refine (Dn b off len cap k zs w h (by omega) hl).mono ?_;rintro e w' ⟨rfl,rfl⟩;go_wp2_with fail;rw [show ((k:Int)+1)=((k+1:Nat):Int) by omega];refine (Dn b off len cap (k+1) zs _ h (by omega) hl).mono ?_;rintro e w' ⟨rfl,rfl⟩;go_wp2;go_ret;exact ⟨da HF.out,rfl⟩
theorem pz (b off len cap k:Nat) (zs:List Int) (w:World) (h:Cel w b off len zs) (hk:k+4<=len) (hl:len<=1048576):
 Calls Tryz.prog 191 #[.slice (some (AD b off)) len cap,VU k] w fun e w'=>e=.returned (VU (num ((zs.drop k).take 4)))∧w'=w:=by
 have hb1:=eW zs k 2 h.2.1;have hb2:=eW zs (k+2) 2 h.2.1;simp at hb1 hb2;have HF:Hid (bits .or .u64 (num ((zs.drop k).take 2)) (num ((zs.drop (k+2)).take 2)*65536)=num ((zs.drop k).take 4)):=by
  rw [rO zs k 2 (by have:=h.1;omega)];exact dm 16 65536 _ _ rfl hb1.1 (by omega) hb2.1 (by omega) (by omega)
 go_enter Tryz.func191,Tryz.ntmps191;go_wp2_with fail;refine (py b off len cap k zs w h (by omega) hl).mono ?_;rintro e w' ⟨rfl,rfl⟩;go_wp2_with fail;rw [show ((k:Int)+2)=((k+2:Nat):Int) by omega];refine (py b off len cap (k+2) zs _ h (by omega) hl).mono ?_;rintro e w' ⟨rfl,rfl⟩;go_wp2;go_ret;exact ⟨da HF.out,rfl⟩
theorem Ho (b off len cap k:Nat) (zs:List Int) (w:World) (h:Cel w b off len zs) (hk:k+8<=len) (hl:len<=1048576):
 Calls Tryz.prog 190 #[.slice (some (AD b off)) len cap,VU k] w fun e w'=>e=.returned (VU (num ((zs.drop k).take 8)))∧w'=w:=by
 have hb1:=eW zs k 4 h.2.1;have hb2:=eW zs (k+4) 4 h.2.1;simp at hb1 hb2;have HF:Hid (bits .or .u64 (num ((zs.drop k).take 4)) (num ((zs.drop (k+4)).take 4)*4294967296)=num ((zs.drop k).take 8)):=by
  rw [rO zs k 4 (by have:=h.1;omega)];exact dm 32 4294967296 _ _ rfl hb1.1 (by omega) hb2.1 (by omega) (by omega)
 go_enter Tryz.func190,Tryz.ntmps190;go_wp2_with fail;refine (pz b off len cap k zs w h (by omega) hl).mono ?_;rintro e w' ⟨rfl,rfl⟩;go_wp2_with fail;rw [show ((k:Int)+4)=((k+4:Nat):Int) by omega];refine (pz b off len cap (k+4) zs _ h (by omega) hl).mono ?_;rintro e w' ⟨rfl,rfl⟩;go_wp2;go_ret;exact ⟨da HF.out,rfl⟩
theorem qR (n level va:Int) (w:World) (hv0:0<=va) (hv1:va<=18446744073709551615) (hl:level=0∨level=1∨level=2) (hn0:0<=n) (hn1:n<17592186044416):
 Calls Tryz.prog 177 #[VU n,VI level,VU va] w fun e w'=>e=.returned (VU (64*n+8*vZ va level))∧∃q,w'=w.drewN q:=by
 obtain ⟨ix,hix⟩:∃ix,vZ va level=ix:=⟨_,rfl⟩;have hib:=uH va level;have HI:=hid hix;have HE:Hid (n*64+ix*8=64*n+8*ix):=show _=_ by omega
 rw [hix] at hib |-;clear hix;go_enter Tryz.func177,Tryz.ntmps177;go_wp2_with fail;refine (yC va level w hv0 hv1 hl).mono ?_;rintro e w' ⟨rfl,nq,rfl⟩;rw [HI.out];go_wp2;go_ret;exact ⟨da HE.out,nq,rfl⟩
theorem tk (a:Option Addr) (len cap:Nat) (addr:Int) (w:World) (hl:len<=1048576) (h0:0<=addr) (h1:addr<=18446744073709551615) (hg:dL len addr 8=false):
 Calls Tryz.prog 188 #[.slice a len cap,VU addr] w fun e w'=>e=.returned (.tuple #[VU 0,.bool false])∧w'=w:=by
 have HG:=hid hg;clear hg;go_enter Tryz.func188,Tryz.ntmps188;go_wp2_with (go_at_call 189;refine (pw _ _ _ _ _ _ hl h0 h1 (by omega)).mono ?_;rintro e w' ⟨rfl,rfl⟩;rw [HG.out]);exact bodyPost_ret (v:=.tuple #[VU 0,.bool false]) (by simp [results,Tryz.results188,go_sem]) rfl ⟨rfl,rfl⟩
theorem uq (a:Option Addr) (len cap:Nat) (zs:List Int) (addr:Int) (w:World) (h:Byt w a len zs) (hl:len<=1048576) (h0:0<=addr) (h1:addr<=18446744073709551615) (hg:dL len addr 8=true):
 Calls Tryz.prog 188 #[.slice a len cap,VU addr] w fun e w'=>e=.returned (.tuple #[VU (rdV zs addr 8),.bool true])∧w'=w:=by
 have hz:=h.1;have hv:rdV zs addr 8=num ((zs.drop addr.toNat).take 8):=by simp [rdV,hz,hg]
 rw [hv];have hg':=hg;simp only [dL,decide_eq_true_eq] at hg';obtain ⟨hn,hn1,hn2⟩:=hg';obtain ⟨k,rfl⟩:=Int.eq_ofNat_of_zero_le h0;obtain ⟨b,off,rfl⟩:∃b off,a=some (AD b off):=by
  rcases h.2.2 with hy | ⟨b,off,rfl,hb,hcl⟩
  ·omega
  ·exact ⟨b,off,rfl⟩
 have HG:=hid hg;have HC:=Cel.of_byt h;clear hg hv h;rw [Int.toNat_natCast];go_enter Tryz.func188,Tryz.ntmps188;go_wp2_with (first
  | (go_at_call 189;refine (pw _ _ _ _ _ _ hl h0 h1 (by omega)).mono ?_;rintro e w' ⟨rfl,rfl⟩;rw [HG.out])
  | (go_at_call 190;refine (Ho b off len cap k zs _ HC (by omega) hl).mono ?_;rintro e w' ⟨rfl,rfl⟩))
 exact bodyPost_ret (v:=.tuple #[VU (num ((zs.drop k).take 8)),.bool true]) (by simp [results,Tryz.results188,go_sem]) rfl ⟨rfl,rfl⟩
theorem AJ (w:World):(Instr.typeAssert (.iface 260 (.agg #[])) 251 260 true).run Tryz.prog w=.ok (.tuple #[.agg #[],.bool true]) w:=by kernel_rfl
theorem AK (w:World):(Instr.typeAssert (.iface 261 (.agg #[])) 251 260 true).run Tryz.prog w=.ok (.tuple #[.agg #[],.bool false]) w:=by kernel_rfl
theorem AM (w:World):(Instr.typeAssert (.iface 261 (.agg #[])) 251 261 true).run Tryz.prog w=.ok (.tuple #[.agg #[],.bool true]) w:=by kernel_rfl
theorem AN (w:World):(Instr.typeAssert .nilIface 251 260 true).run Tryz.prog w=.ok (.tuple #[.agg #[],.bool false]) w:=by kernel_rfl
theorem AO (w:World):(Instr.typeAssert .nilIface 251 261 true).run Tryz.prog w=.ok (.tuple #[.agg #[],.bool false]) w:=by kernel_rfl
def kM (code:Int):Value:=if code=1 then .nilIface else if code=2 then .iface 260 (.agg #[]) else .iface 261 (.agg #[])
theorem qH (kind:Int) (w:World):Calls Tryz.prog 138 #[VI kind] w fun e w'=>e=.returned (VI (dI kind))∧w'=w:=by
 by_cases k0:kind=0
 ·subst k0;go_enter Tryz.func138,Tryz.ntmps138;go_wp2;go_ret;exact ⟨rfl,rfl⟩
 have k0':(kind == 0)=false:=by simpa using k0
 by_cases k1:kind=1
 ·subst k1;go_enter Tryz.func138,Tryz.ntmps138;go_wp2;go_ret;exact ⟨rfl,rfl⟩
 have k1':(kind == 1)=false:=by simpa using k1
 have HE:Hid (dI kind=15):=by show _=_;rw [dI,if_neg k0,if_neg k1]
 clear k0 k1;go_enter Tryz.func138,Tryz.ntmps138;go_wp2;go_ret;exact ⟨eQ HE.out.symm,rfl⟩
theorem iO (kind:Int) (w:World):Calls Tryz.prog 130 #[VI kind] w fun e w'=>e=.returned (VI (bq kind))∧w'=w:=by
 by_cases k0:kind=0
 ·subst k0;go_enter Tryz.func130,Tryz.ntmps130;go_wp2;go_ret;exact ⟨rfl,rfl⟩
 have k0':(kind == 0)=false:=by simpa using k0
 by_cases k1:kind=1
 ·subst k1;go_enter Tryz.func130,Tryz.ntmps130;go_wp2;go_ret;exact ⟨rfl,rfl⟩
 have k1':(kind == 1)=false:=by simpa using k1
 have HE:Hid (bq kind=7):=by show _=_;rw [bq,if_neg k0,if_neg k1]
 clear k0 k1;go_enter Tryz.func130,Tryz.ntmps130;go_wp2;go_ret;exact ⟨eQ HE.out.symm,rfl⟩
theorem EQ (c kind:Int) (w:World) (hc:c=1∨c=2∨c=3):
 Calls Tryz.prog 132 #[kM c,VI kind] w fun e w'=>e=.returned (VI (if c=1 then 0 else if c=2 then dI kind else bq kind))∧w'=w:=by
 have t1:=AJ;have t2:=AK;have t3:=AM;have t4:=AN;have t5:=AO;rcases hc with rfl | rfl | rfl;all_goals
  simp only [kM,if_pos,Int.reduceEq];go_enter Tryz.func132,Tryz.ntmps132;go_wp2_with (first
   | (go_at_call 138;refine (qH kind _).mono ?_;rintro e w' ⟨rfl,rfl⟩)
   | (go_at_call 130;refine (iO kind _).mono ?_;rintro e w' ⟨rfl,rfl⟩))
  go_ret;exact ⟨rfl,rfl⟩
def oT (acc:List aD) (r:Int × Int × Int × List aD):Int × Int × Int × List aD:=(r.1,r.2.1,r.2.2.1,acc++r.2.2.2)
theorem pF (zs:List Int) (va:Int) (k:Nat) (n:Int) (h:dL zs.length (64*n+8*vZ va k) 8=false):aN zs va k n=(3,(k:Int),0,[]):=by
 unfold aN;rw [if_pos h]
theorem pG (zs:List Int) (va:Int) (k:Nat) (n:Int) (h:dL zs.length (64*n+8*vZ va k) 8=true) (hk:aV (rdV zs (64*n+8*vZ va k) 8) k=0):aN zs va k n=(2,(k:Int),0,[]):=by
 unfold aN;rw [if_neg (by rw [h];simp),if_pos hk]
theorem nH (zs:List Int) (va:Int) (k:Nat) (n:Int) (h:dL zs.length (64*n+8*vZ va k) 8=true) (hk:aV (rdV zs (64*n+8*vZ va k) 8) k=2):aN zs va k n=(1,(k:Int),rdV zs (64*n+8*vZ va k) 8,[((k:Int),64*n+8*vZ va k,rdV zs (64*n+8*vZ va k) 8)]):=by
 unfold aN;rw [if_neg (by rw [h];simp),if_neg (by rw [hk];decide),if_pos hk]
theorem nI (zs:List Int) (va:Int) (k:Nat) (n:Int) (h:dL zs.length (64*n+8*vZ va ((k+1:Nat):Int)) 8=true) (hk:aV (rdV zs (64*n+8*vZ va ((k+1:Nat):Int)) 8) ((k+1:Nat):Int)=1):
 aN zs va (k+1) n=oT [(((k+1:Nat):Int),64*n+8*vZ va ((k+1:Nat):Int),rdV zs (64*n+8*vZ va ((k+1:Nat):Int)) 8)] (aN zs va k (cx (rdV zs (64*n+8*vZ va ((k+1:Nat):Int)) 8))):=by
 rw [aN,if_neg (by rw [h];simp),if_neg (by rw [hk];decide),if_neg (by rw [hk];decide)];rfl
theorem ya (a b:List aD) (r:Int × Int × Int × List aD):oT a (oT b r)=oT (a++b) r:=by
 simp [oT]
def ua (base:Nat) (w':World) (e:Ending) (r:Int × Int × Int × List aD):Prop:=
 ∃ra rc,e=.returned (.tuple #[.agg #[VI r.2.1,VU r.2.2.1,.slice ra r.2.2.2.length rc],kM r.1])∧w'.ownsRow base 118 3 (.slice ra r.2.2.2.length rc) r.2.2.2.length (bu r.2.2.2)
def uP (w:World) (p:Nat):Nat:=match w.cell? (AD p 0) with
 | some v=>(intOf v).toNat
 | none=>0
def SrcAt (w:World) (sv:Value) (zs:List Int):Prop:=
 ∃d x a len cap,sv=.iface d x∧(∀u,Bw w u->(method 417 d x "loop.example/s0051/impl.entryAt").run Tryz.prog u=.ok (188,.slice a len cap) u)∧Byt w a len zs∧len<=1048576
theorem SrcAt.keep {w w':World} {sv:Value} {zs:List Int} (h:SrcAt w sv zs) (hb:Bw w w'):SrcAt w' sv zs:=by
 obtain ⟨d,x,a,len,cap,rfl,hm,hB,hl⟩:=h;exact ⟨d,x,a,len,cap,rfl,fun u hu=>hm u (bst hb hu),hB.keep hb,hl⟩
theorem SrcAt.bd {w:World} {sv:Value} {zs:List Int} (h:SrcAt w sv zs):∀i:Nat,0<=zs[i]?.getD 0∧zs[i]?.getD 0<=255:=by
 obtain ⟨d,x,a,len,cap,rfl,hm,hB,hl⟩:=h;exact hB.2.1
theorem fK:∀a b:List aD,bu (a++b)=bu a++bu b
 | [],b=>rfl
 | r::a,b=>by simp [bu,fK a b]
theorem kx (sv:Value) (zs:List Int) (va n:Int) (l:Nat) (w:World) (hB:SrcAt w sv zs) (hl:l<=2) (hv0:0<=va) (hv1:va<=18446744073709551615) (hn0:0<=n) (hn1:n<17592186044416):
 Calls Tryz.prog 170 #[sv,VU n,VI l,VU va] w fun e w'=>ua w.heap.size w' e (aN zs va l n)∧Bw w w':=by
 obtain ⟨dT,xS,a,len,cap,rfl,hm,hB,hlen⟩:=hB;have hz:=hB.1;have hzb:=hB.2.1;have HB:=hid hB;have HMt:Hid _:=hm;obtain ⟨X,hX⟩:∃X,aN zs va l n=X:=⟨_,rfl⟩;have HX:Hid (X=oT [] (aN zs va l n)):=by show _=_;rw [<-hX];rfl
 rw [hX];clear hX hB hm;have s0:Hid (((w.alloc (Obj.cells #[VI 0,VU 0,SN] 284)).alloc (Obj.cells #[VI l,VU 0,SN] 284)).heap[w.heap.size+1]?=some (.cells #[VI l,VU 0,SN] 284 (0,0))):=by
  have:=dN (w.alloc (Obj.cells #[VI 0,VU 0,SN] 284)) (Obj.cells #[VI l,VU 0,SN] 284);simp only [World.size_alloc] at this;exact this
 have r0:Hid (((w.alloc (Obj.cells #[VI 0,VU 0,SN] 284)).alloc (Obj.cells #[VI l,VU 0,SN] 284)).heap[w.heap.size]?=some (.cells #[VI 0,VU 0,SN] 284 (0,0))):=by
  show _=_;rw [Eu _ _ (by simp)];exact dN w _
 have b0:Bw w ((w.alloc (Obj.cells #[VI 0,VU 0,SN] 284)).alloc (Obj.cells #[VI l,VU 0,SN] 284)):=((Below.refl w.heap.size w).alloc nle _).alloc (by simp) _;go_enter Tryz.func170,Tryz.ntmps170;go_wp2;go_loopw [1] (fun tt wr=>∃(k:Nat) (n':Int) (ra:Option Addr) (rc:Nat) (acc:List aD),k<=l∧tt=VU n'∧0<=n'∧n'<17592186044416∧acc.length+k<=2∧wr.heap[w.heap.size+1]?=some (.cells #[VI k,VU 0,.slice ra acc.length rc] 284 (0,0))∧
  wr.heap[w.heap.size]?=some (.cells #[VI 0,VU 0,SN] 284 (0,0))∧wr.ownsRow (w.heap.size+2) 118 3 (.slice ra acc.length rc) acc.length (bu acc)∧Hid (X=oT acc (aN zs va k n'))∧Bw w wr) (fun _ wr=>uP wr (w.heap.size+1))
 case atStart=>exact ⟨l,n,none,0,[],nle,rfl,hn0,hn1,by simpa using hl,s0.out,r0.out,World.ownsRow_nil _ _ _ _,HX,b0⟩
 case round=>
  clear s0 r0 b0 HX hn0 hn1;obtain ⟨k,n',ra,rc,acc,hk,rfl,hn0,hn1,hac,hS,hR,hO,HX,hb⟩:=hrel;have HS:=hid hS;have HR:=hid hR;have HO:=hid hO;have hlt:=(hpl hS);have HM:Hid (uP wr (w.heap.size+1)=k):=by
   show _=_;rw [uP,(au hS).1.1];rfl
  obtain ⟨⟨c0,c1,c2⟩,e0,e1,e2⟩:=au hS;clear hS hR hO;obtain ⟨ix,hix⟩:∃ix,vZ va (k:Int)=ix:=⟨_,rfl⟩;have hib:=uH va (k:Int);rw [hix] at hib;obtain ⟨rv,hrv⟩:∃rv,rdV zs (64*n'+8*ix) 8=rv:=⟨_,rfl⟩;have hrb:=nj zs (64*n'+8*ix) 8 (by omega) hzb;rw [hrv] at hrb;have HI:=hid hix;have HV:Hid (rdV zs (64*n'+8*ix) 8=rv):=hrv;clear hix hrv;go_wp2_with fail;refine (qR n' k va wr hv0 hv1 (by omega) hn0 hn1).mono ?_;rintro e w' ⟨rfl,nq,rfl⟩;rw [HI.out];have HS1:Hid ((wr.drewN nq).heap[w.heap.size+1]?=some (.cells #[VI k,VU 0,.slice ra acc.length rc] 284 (0,0))):=HS;have HR1:Hid ((wr.drewN nq).heap[w.heap.size]?=some (.cells #[VI 0,VU 0,SN] 284 (0,0))):=HR;have HO1:Hid ((wr.drewN nq).ownsRow (w.heap.size+2) 118 3 (.slice ra acc.length rc) acc.length (bu acc)):=HO;have hlt1:w.heap.size+1<(wr.drewN nq).heap.size:=hlt;have hb1:Bw w (wr.drewN nq):=below_drewN hb nq;generalize wr.drewN nq=v1 at HS1 HR1 HO1 hlt1 hb1 |-;clear c0 c1 c2 e0 e1 e2 HS HR HO hlt hb;obtain ⟨⟨c0,c1,c2⟩,e0,e1,e2⟩:=au HS1.out;obtain ⟨⟨d0,d1,d2⟩,f0,f1,f2⟩:=au HR1.out;have hm:=HMt.out v1 hb1;cases hg:dL len (64*n'+8*ix) 8
  ·have HG:Hid (dL len (64*n'+8*ix) 8=false):=hg;clear hg;go_wp2_with fail;refine (tk a len cap (64*n'+8*ix) v1 hlen (by omega) (by omega) HG.out).mono ?_;rintro e w' ⟨rfl,rfl⟩;go_wp2_with fail;have hX:X=(3,(k:Int),0,acc):=by
    rw [HX.out,pF zs va k n' (by rw [hz,HI.out];exact HG.out)];simp [oT]
   refine bodyPost_ret (v:=.tuple #[.agg #[VI k,VU 0,.slice ra acc.length rc],.iface 261 (.agg #[])]) (by simp [results,Tryz.results170,go_sem,d0,d1,d2]) rfl ?_;rw [hX];exact ⟨⟨ra,rc,rfl,bD (ao HO1.out (gb3 _ w.heap.size _ _ _) (by omega)) (by omega)⟩,iG hb1 nle _ _ _⟩
  ·have HG:Hid (dL len (64*n'+8*ix) 8=true):=hg;clear hg;go_wp2_with fail;refine (uq a len cap zs (64*n'+8*ix) v1 (HB.out.keep hb1) hlen (by omega) (by omega) HG.out).mono ?_;rintro e w' ⟨rfl,rfl⟩;rw [HV.out];rcases Do rv (k:Int) with hkd | hkd | hkd
   ·have HK:Hid (aV rv (k:Int)=0):=hkd;clear hkd;go_wp2_with fail;refine (ku rv k _ hrb.1 hrb.2).mono ?_;rintro e w' ⟨rfl,rfl⟩;rw [HK.out];go_wp2_with fail;have hX:X=(2,(k:Int),0,acc):=by
     rw [HX.out,pG zs va k n' (by rw [hz,HI.out];exact HG.out) (by rw [HI.out,HV.out];exact HK.out)];simp [oT]
    refine bodyPost_ret (v:=.tuple #[.agg #[VI k,VU 0,.slice ra acc.length rc],.iface 260 (.agg #[])]) (by simp [results,Tryz.results170,go_sem,d0,d1,d2]) rfl ?_;rw [hX];exact ⟨⟨ra,rc,rfl,bD (ao HO1.out (gb3 _ w.heap.size _ _ _) (by omega)) (by omega)⟩,iG hb1 nle _ _ _⟩
   ·have HK:Hid (aV rv (k:Int)=1):=hkd;clear hkd;go_wp2_with fail;refine (ku rv k _ hrb.1 hrb.2).mono ?_;rintro e v3 ⟨rfl,rfl⟩;rw [HK.out];have n4:=(Below.refl v3.heap.size v3).alloc nle (Obj.cells #[VI k,VU (64*n'+8*ix),VU rv] 118);have HS4:Hid ((v3.alloc (Obj.cells #[VI k,VU (64*n'+8*ix),VU rv] 118)).heap[w.heap.size+1]?=some (.cells #[VI k,VU 0,.slice ra acc.length rc] 284 (0,0))):=ag HS1.out n4 hlt1;have HR4:Hid ((v3.alloc (Obj.cells #[VI k,VU (64*n'+8*ix),VU rv] 118)).heap[w.heap.size]?=some (.cells #[VI 0,VU 0,SN] 284 (0,0))):=ag HR1.out n4 (by omega);have HO4:Hid ((v3.alloc (Obj.cells #[VI k,VU (64*n'+8*ix),VU rv] 118)).ownsRow (w.heap.size+2) 118 3 (.slice ra acc.length rc) acc.length (bu acc)):=cB HO1.out n4;have HW4:Hid (RowC (v3.alloc (Obj.cells #[VI k,VU (64*n'+8*ix),VU rv] 118)) (some (AD v3.heap.size 0)) 1 3 (bu [((k:Int),64*n'+8*ix,rv)])):=(OwnC.new 118 3 v3 (bu [((k:Int),64*n'+8*ix,rv)]) 1 (by rfl) (by decide)).row;have l4:v3.heap.size<(v3.alloc (Obj.cells #[VI k,VU (64*n'+8*ix),VU rv] 118)).heap.size:=by simp
    have b4:Bw w (v3.alloc (Obj.cells #[VI k,VU (64*n'+8*ix),VU rv] 118)):=hb1.alloc (by omega) _;go_wp2_with (at_builtin;refine DQ _ rfl (.tmp 43) (.tmp 49) 112 rfl 118 Tryz.underlying112 (.agg #[VI 0,VU 0,VU 0]) 3 24 Tryz.infoRec rfl (by decide) (w.heap.size+2) acc.length _ (bu acc) rfl HO4.out v3.heap.size 0 1 1 (bu [((k:Int),64*n'+8*ix,rv)]) rfl (by omega) HW4.out (kV _) (by omega) (by omega) (by omega) (w.heap.size+2) _ brf nle ?_;intro g5 cp5 v5 o5 n5;have HO5:Hid (v5.ownsRow (w.heap.size+2) 118 3 (SL g5 (acc.length+1) cp5) (acc.length+1) (bu acc++bu [((k:Int),64*n'+8*ix,rv)])):=o5;have HS5:Hid (v5.heap[w.heap.size+1]?=some (.cells #[VI k,VU 0,.slice ra acc.length rc] 284 (0,0))):=(n5.block _ (by omega)).trans HS4.out;have HR5:Hid (v5.heap[w.heap.size]?=some (.cells #[VI 0,VU 0,SN] 284 (0,0))):=(n5.block _ (by omega)).trans HR4.out;have b5:Bw w v5:=b4.trans (n5.mono (by omega));have l5:=n5.size;clear c0 c1 c2 e0 e1 e2 d0 d1 d2 f0 f1 f2 o5;obtain ⟨⟨c0,c1,c2⟩,e0,e1,e2⟩:=au HS5.out;obtain ⟨⟨d0,d1,d2⟩,f0,f1,f2⟩:=au HR5.out;clear n5 n4 HS4 HR4 HO4 HW4 b4 HS1 HR1 HO1);have HS6:Hid ((v5.setCell ⟨w.heap.size+1,2,none⟩ (SL g5 (acc.length+1) cp5)).heap[w.heap.size+1]?=some (.cells #[VI k,VU 0,SL g5 (acc.length+1) cp5] 284 (0,0))):=AS HS5.out;have m6:=aj (cC v5 (some (w.heap.size+1))) 2 (SL g5 (acc.length+1) cp5);have HR6:Hid ((v5.setCell ⟨w.heap.size+1,2,none⟩ (SL g5 (acc.length+1) cp5)).heap[w.heap.size]?=some (.cells #[VI 0,VU 0,SN] 284 (0,0))):=aq HR5.out m6 (by omega);have HO6:Hid ((v5.setCell ⟨w.heap.size+1,2,none⟩ (SL g5 (acc.length+1) cp5)).ownsRow (w.heap.size+2) 118 3 (SL g5 (acc.length+1) cp5) (acc.length+1) (bu acc++bu [((k:Int),64*n'+8*ix,rv)])):=ao HO5.out m6 (by omega);have b6:=b5.setCell (p:=⟨w.heap.size+1,2,none⟩) (by show w.heap.size<=w.heap.size+1;omega) (SL g5 (acc.length+1) cp5);refine (qC rv _ hrb.1 hrb.2).mono ?_;rintro e w' ⟨rfl,rfl⟩;generalize v5.setCell ⟨w.heap.size+1,2,none⟩ (SL g5 (acc.length+1) cp5)=v6 at HS6 HR6 HO6 b6 |-;clear c0 c1 c2 e0 e1 e2 d0 d1 d2 f0 f1 f2 m6 HS5 HR5 HO5 b5;obtain ⟨⟨c0,c1,c2⟩,e0,e1,e2⟩:=au HS6.out;have hpb:=uI rv;obtain ⟨pp,hpp⟩:∃pp,cx rv=pp:=⟨_,rfl⟩;have HP:Hid (cx rv=pp):=hpp;rw [hpp] at hpb |-;clear hpp;obtain ⟨k',rfl⟩:∃k',k=k'+1:=by
     cases k with
     | zero=>exact absurd HK.out (ie _)
     | succ k'=>exact ⟨k',rfl⟩
    go_wp2;go_roundw
    case rel=>
     refine ⟨k',pp,some (AD g5 0),cp5,acc++[(((k'+1:Nat):Int),64*n'+8*ix,rv)],by omega,rfl,hpb.1,hpb.2,by simp;omega,?_,?_,?_,?_,?_⟩
     ·rw [show (acc++[(((k'+1:Nat):Int),64*n'+8*ix,rv)]).length=acc.length+1 by simp,show ((k':Nat):Int)=((k'+1:Nat):Int)-1 by omega];exact zU HS6.out
     ·exact aq HR6.out (aj (cC v6 (some (w.heap.size+1))) 0 _) (by omega)
     ·rw [show (acc++[(((k'+1:Nat):Int),64*n'+8*ix,rv)]).length=acc.length+1 by simp,fK];exact ao HO6.out (aj (cC v6 (some (w.heap.size+1))) 0 _) (by omega)
     ·show _=_;rw [HX.out,nI zs va k' n' (by rw [hz,HI.out];exact HG.out) (by rw [HI.out,HV.out];exact HK.out),ya,HI.out,HV.out,HP.out]
     ·exact b6.setCell (p:=⟨w.heap.size+1,0,none⟩) (by show w.heap.size<=w.heap.size+1;omega) _
    case measure=>
     rw [HM.out,uP,(au (zU HS6.out)).1.1];simp [intOf]
   ·have HK:Hid (aV rv (k:Int)=2):=hkd;clear hkd;go_wp2_with fail;refine (ku rv k _ hrb.1 hrb.2).mono ?_;rintro e v3 ⟨rfl,rfl⟩;rw [HK.out];have n4:=(Below.refl v3.heap.size v3).alloc nle (Obj.cells #[VI k,VU (64*n'+8*ix),VU rv] 118);have HS4:=hid (ag HS1.out n4 hlt1);have HR4:=hid (ag HR1.out n4 (by omega));have HO4:=hid (cB HO1.out n4);have HW4:=hid ((OwnC.new 118 3 v3 (bu [((k:Int),64*n'+8*ix,rv)]) 1 (by rfl) (by decide)).row);have l4:v3.heap.size<(v3.alloc (Obj.cells #[VI k,VU (64*n'+8*ix),VU rv] 118)).heap.size:=by simp
    have b4:Bw w (v3.alloc (Obj.cells #[VI k,VU (64*n'+8*ix),VU rv] 118)):=hb1.alloc (by omega) _;go_wp2_with (at_builtin;refine DQ _ rfl (.tmp 43) (.tmp 49) 112 rfl 118 Tryz.underlying112 (.agg #[VI 0,VU 0,VU 0]) 3 24 Tryz.infoRec rfl (by decide) (w.heap.size+2) acc.length _ (bu acc) rfl HO4.out v3.heap.size 0 1 1 (bu [((k:Int),64*n'+8*ix,rv)]) rfl (by omega) HW4.out (kV _) (by omega) (by omega) (by omega) (w.heap.size+2) _ brf nle ?_;intro g5 cp5 v5 o5 n5;have HO5:Hid (v5.ownsRow (w.heap.size+2) 118 3 (SL g5 (acc.length+1) cp5) (acc.length+1) (bu acc++bu [((k:Int),64*n'+8*ix,rv)])):=o5;have HS5:Hid (v5.heap[w.heap.size+1]?=some (.cells #[VI k,VU 0,.slice ra acc.length rc] 284 (0,0))):=(n5.block _ (by omega)).trans HS4.out;have HR5:Hid (v5.heap[w.heap.size]?=some (.cells #[VI 0,VU 0,SN] 284 (0,0))):=(n5.block _ (by omega)).trans HR4.out;have b5:Bw w v5:=b4.trans (n5.mono (by omega));have l5:=n5.size;clear c0 c1 c2 e0 e1 e2 d0 d1 d2 f0 f1 f2 o5;obtain ⟨⟨c0,c1,c2⟩,e0,e1,e2⟩:=au HS5.out;obtain ⟨⟨d0,d1,d2⟩,f0,f1,f2⟩:=au HR5.out;clear n5 n4 HS4 HR4 HO4 HW4 b4 HS1 HR1 HO1);have hX:X=(1,(k:Int),rv,acc++[((k:Int),64*n'+8*ix,rv)]):=by
     rw [HX.out,nH zs va k n' (by rw [hz,HI.out];exact HG.out) (by rw [HI.out,HV.out];exact HK.out),HI.out,HV.out];rfl
    refine bodyPost_ret (v:=.tuple #[.agg #[VI k,VU rv,SL g5 (acc.length+1) cp5],.nilIface]) (by simp [results,Tryz.results170,go_sem,d0,d1,d2]) rfl ?_;rw [hX];refine ⟨⟨some (AD g5 0),cp5,?_,?_⟩,iG ((b5.setCell (p:=⟨w.heap.size+1,2,none⟩) (by show w.heap.size<=w.heap.size+1;omega) _).setCell (p:=⟨w.heap.size+1,1,none⟩) (by show w.heap.size<=w.heap.size+1;omega) _) nle _ _ _⟩
    ·simp [kM]
    ·rw [show (acc++[((k:Int),64*n'+8*ix,rv)]).length=acc.length+1 by simp,fK];exact bD (ao (ao HO5.out (aj (aj (cC v5 (some (w.heap.size+1))) 2 _) 1 _) (by omega)) (gb3 _ w.heap.size _ _ _) (by omega)) (by omega)
theorem kz (va l:Int) (hl:l=0∨l=1∨l=2):0<=cG va l∧cG va l<=511:=by
 rcases hl with rfl | rfl | rfl <;> simp only [cG] <;> (try simp) <;> omega
theorem zH {t:TlbM} {p:Bool} {va asid l:Int} {q:Nat} {x:EntM} (hv:aF t p=true) (hx:t.es[q]?=some x) (hh:gn va asid l x=true):(q:Int)/t.ways=cG va l%t.sets:=by
 have hp:=fx hv q x hx;simp only [gn,gQ,Bool.and_eq_true,beq_iff_eq] at hh;obtain ⟨h1,⟨h2,h3⟩,_⟩:=hh;simp only [bL,Bool.or_eq_true,Bool.and_eq_true,beq_iff_eq] at hp;rcases hp with hp | hp
 ·rw [h2] at hp;simp at hp
 ·rw [<-hp.2,h3,h1]
theorem sR {t:TlbM} {p:Bool} (hv:aF t p=true):(t.sets=1∨t.sets=2∨t.sets=4∨t.sets=8)∧1<=t.ways∧t.ways<=4∧(t.es.length:Int)=t.sets*t.ways:=eM hv
theorem qN {t:TlbM} {p:Bool} {va asid l:Int} {q f:Nat} {x:EntM} (hv:aF t p=true) (hx:t.es[q]?=some x) (hf:(f:Int)=cG va l%t.sets*t.ways) (hq:q<f∨(f:Int)+t.ways<=q):gn va asid l x=false:=by
 cases hh:gn va asid l x
 ·rfl
 ·exfalso;have h1:=zH hv hx hh;obtain ⟨_,w1,w4,_⟩:=sR hv;rw [<-h1] at hf;rcases (show t.ways=1∨t.ways=2∨t.ways=3∨t.ways=4 by omega) with hw | hw | hw | hw <;> rw [hw] at hf hq <;> omega
theorem Hz {t:TlbM} {p:Bool} {va asid l:Int} {f:Nat} (hv:aF t p=true) (hf:(f:Int)=cG va l%t.sets*t.ways)
 (h:∀(j:Nat) x,(j:Int)<t.ways->t.es[f+j]?=some x->gn va asid l x=false):cw va asid l 0 t.es=none:=by
 refine mE va asid l t.es 0 (fun j x hx=>?_);by_cases h1:j<f
 ·exact qN hv hx hf (.inl h1)
 ·by_cases h2:(f:Int)+t.ways<=j
  ·exact qN hv hx hf (.inr h2)
  ·exact h (j-f) x (by omega) (by rw [show f+(j-f)=j by omega];exact hx)
theorem wB {t:TlbM} {p:Bool} {va asid l:Int} {f k:Nat} {x:EntM} (hv:aF t p=true) (hf:(f:Int)=cG va l%t.sets*t.ways) (hx:t.es[f+k]?=some x) (hh:gn va asid l x=true)
 (h:∀(j:Nat) y,j<k->t.es[f+j]?=some y->gn va asid l y=false):cw va asid l 0 t.es=some (f+k,x):=by
 have:=mF va asid l t.es 0 (f+k) x hx hh (fun j y hj hy=>by
  by_cases h1:j<f
  ·exact qN hv hy hf (.inl h1)
  ·exact h (j-f) y (by omega) (by rw [show f+(j-f)=j by omega];exact hy))
 rw [Nat.zero_add] at this;exact this
theorem pN (va asid l:Int):∀(es:List EntM) (i k:Nat) (x:EntM),cw va asid l i es=some (k,x)->∃j,k=i+j∧es[j]?=some x∧gn va asid l x=true
 | [],i,k,x,h=>by cases h
 | e::r,i,k,x,h=>by
  rw [cw] at h;split at h
  ·rename_i hh;cases h;exact ⟨0,rfl,rfl,hh⟩
  ·obtain ⟨j,rfl,h2,h3⟩:=pN va asid l r (i+1) k x h;exact ⟨j+1,by omega,by simpa using h2,h3⟩
theorem js (t:TlbM) (va asid:Int) (h:(aX t va asid).1=true):∃(k:Nat) (x:EntM),t.es[k]?=some x∧(aX t va asid).2.1=(k:Int)∧(aX t va asid).2.2.1=x.level∧(aX t va asid).2.2.2=x.pte∧gQ x va asid=true∧x.valid=true:=by
 have key:∀(l:Int) (k:Nat) (x:EntM),cw va asid l 0 t.es=some (k,x)->t.es[k]?=some x∧l=x.level∧gQ x va asid=true∧x.valid=true:=by
  intro l k x hf;obtain ⟨j,rfl,h2,h3⟩:=pN va asid l t.es 0 k x hf;simp only [gn,Bool.and_eq_true,beq_iff_eq] at h3;have hv:x.valid=true:=by
   have:=h3.2;simp only [gQ,Bool.and_eq_true] at this;exact this.1.1
  exact ⟨by rw [Nat.zero_add];exact h2,h3.1.symm,h3.2,hv⟩
 unfold aX at h |-;split at h
 ·cases h
 ·rename_i he;rw [if_neg he];cases h0:cw va asid 0 0 t.es with
  | some y=>
   obtain ⟨k,x⟩:=y;obtain ⟨a1,a2,a3,a4⟩:=key 0 k x h0;exact ⟨k,x,a1,by simp [fo],by simp [fo,<-a2],by simp [fo],a3,a4⟩
  | none=>
   cases h1:cw va asid 1 0 t.es with
   | some y=>
    obtain ⟨k,x⟩:=y;obtain ⟨a1,a2,a3,a4⟩:=key 1 k x h1;exact ⟨k,x,a1,by simp [fo],by simp [fo,<-a2],by simp [fo],a3,a4⟩
   | none=>
    cases h2:cw va asid 2 0 t.es with
    | some y=>
     obtain ⟨k,x⟩:=y;obtain ⟨a1,a2,a3,a4⟩:=key 2 k x h2;exact ⟨k,x,a1,by simp [fo],by simp [fo,<-a2],by simp [fo],a3,a4⟩
    | none=>
     rw [h0,h1,h2] at h;simp [fo] at h
theorem Gn {t:TlbM} {va asid i l pt:Int} (h:aX t va asid=(false,i,l,pt)):(i,l,pt)=(0,0,0):=by
 unfold aX at h;split at h
 ·cases h;rfl
 ·cases h0:cw va asid 0 0 t.es with
  | some y=>simp [h0,fo] at h
  | none=>
   cases h1:cw va asid 1 0 t.es with
   | some y=>simp [h0,h1,fo] at h
   | none=>
    cases h2:cw va asid 2 0 t.es with
    | some y=>simp [h0,h1,h2,fo] at h
    | none=>
     simp [h0,h1,h2,fo] at h;obtain ⟨rfl,rfl,rfl⟩:=h;rfl
end Go.Proofs.YthdgiakgepmabaaGreat
