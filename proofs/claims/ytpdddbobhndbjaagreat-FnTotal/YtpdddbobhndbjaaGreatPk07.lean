import Derived.Test.YtpdddbobhndbjaaGreatPk06
namespace Go.Proofs.YtpdddbobhndbjaaGreat
open Go.RowKit
set_option linter.unusedVariables false
set_option maxHeartbeats 6400000
set_option maxRecDepth 20000
def fG (x kind:Int) (mxr:Bool):Bool:=if kind=0 then bR x 8 else if kind=1 then bR x 2 || (mxr && bR x 8) else if kind=2 then bR x 4 else false
theorem jx (x kind:Int) (mxr:Bool) (w:World) (h0:0<=x) (h1:x<=18446744073709551615):
 Calls Tryz.prog 181 #[.int .u64 x,.int .i64 kind,.bool mxr] w fun e w'=>e=.returned (.bool (fG x kind mxr))∧w'=w:=by
 have HR:=hid (dI 1 x 2 rfl (by omega) h0 h1);have HW:=hid (dI 2 x 4 rfl (by omega) h0 h1);have HX:=hid (dI 3 x 8 rfl (by omega) h0 h1);by_cases k0:kind=0
 ·subst k0;go_enter Tryz.func181,Tryz.ntmps181;go_wp2_with (go_at_call 130;refine (dE x _ _).mono ?_;rintro e w' ⟨rfl,rfl⟩;rw [HX.out]);go_ret;exact ⟨rfl,rfl⟩
 have k0':(kind == 0)=false:=by simpa using k0
 by_cases k1:kind=1
 ·subst k1;cases hr:bR x 2 <;> cases mxr;all_goals
   go_enter Tryz.func181,Tryz.ntmps181;go_wp2_with (go_at_call 130;refine (dE x _ _).mono ?_;rintro e w' ⟨rfl,rfl⟩;first | rw [HR.out,hr] | rw [HX.out]);go_ret;exact ⟨aE (by simp [fG,hr]),rfl⟩
 have k1':(kind == 1)=false:=by simpa using k1
 by_cases k2:kind=2
 ·subst k2;go_enter Tryz.func181,Tryz.ntmps181;go_wp2_with (go_at_call 130;refine (dE x _ _).mono ?_;rintro e w' ⟨rfl,rfl⟩;rw [HW.out]);go_ret;exact ⟨rfl,rfl⟩
 have k2':(kind == 2)=false:=by simpa using k2
 have HE:Hid (fG x kind mxr=false):=by show _=_;rw [fG,if_neg k0,if_neg k1,if_neg k2]
 clear k0 k1 k2;go_enter Tryz.func181,Tryz.ntmps181;go_wp2_with fail;go_ret;exact ⟨aE HE.out.symm,rfl⟩
def fH (x kind mode:Int) (sum:Bool):Bool:=if mode=0 then bR x 16 else if mode=1 then !bR x 16 || (sum && kind != 0) else false
theorem mz (x kind mode:Int) (sum:Bool) (w:World) (h0:0<=x) (h1:x<=18446744073709551615):
 Calls Tryz.prog 182 #[.int .u64 x,.int .i64 kind,.int .i64 mode,.bool sum] w fun e w'=>e=.returned (.bool (fH x kind mode sum))∧w'=w:=by
 have HU:=hid (dI 4 x 16 rfl (by omega) h0 h1);by_cases k0:mode=0
 ·subst k0;go_enter Tryz.func182,Tryz.ntmps182;go_wp2_with (go_at_call 130;refine (dE x _ _).mono ?_;rintro e w' ⟨rfl,rfl⟩;rw [HU.out]);go_ret;exact ⟨rfl,rfl⟩
 have k0':(mode == 0)=false:=by simpa using k0
 by_cases k1:mode=1
 ·subst k1;cases hu:bR x 16 <;> cases sum;all_goals
   go_enter Tryz.func182,Tryz.ntmps182;go_wp2_with (go_at_call 130;refine (dE x _ _).mono ?_;rintro e w' ⟨rfl,rfl⟩;rw [HU.out,hu]);all_goals
    go_ret;exact ⟨aE (by simp_all [fH]),rfl⟩
 have k1':(mode == 1)=false:=by simpa using k1
 have HE:Hid (fH x kind mode sum=false):=by show _=_;rw [fH,if_neg k0,if_neg k1]
 clear k0 k1;go_enter Tryz.func182,Tryz.ntmps182;go_wp2_with fail;go_ret;exact ⟨aE HE.out.symm,rfl⟩
def me (x kind:Int):Bool:=bR x 64 && (kind != 2 || bR x 128)
theorem zZ (x kind:Int) (w:World) (h0:0<=x) (h1:x<=18446744073709551615):
 Calls Tryz.prog 183 #[.int .u64 x,.int .i64 kind] w fun e w'=>e=.returned (.bool (me x kind))∧w'=w:=by
 have HA:=hid (dI 6 x 64 rfl (by omega) h0 h1);have HD:=hid (dI 7 x 128 rfl (by omega) h0 h1);cases ha:bR x 64
 ·go_enter Tryz.func183,Tryz.ntmps183;go_wp2_with (go_at_call 130;refine (dE x _ _).mono ?_;rintro e w' ⟨rfl,rfl⟩;rw [HA.out,ha]);go_ret;exact ⟨aE (by simp [me,ha]),rfl⟩
 ·cases hk:(kind != 2)
  ·go_enter Tryz.func183,Tryz.ntmps183;go_wp2_with (go_at_call 130;refine (dE x _ _).mono ?_;rintro e w' ⟨rfl,rfl⟩;first | rw [HA.out,ha] | rw [HD.out]);go_ret;exact ⟨aE (by simp [me,ha,hk]),rfl⟩
  ·go_enter Tryz.func183,Tryz.ntmps183;go_wp2_with (go_at_call 130;refine (dE x _ _).mono ?_;rintro e w' ⟨rfl,rfl⟩;first | rw [HA.out,ha] | rw [HD.out]);go_ret;exact ⟨aE (by simp [me,ha,hk]),rfl⟩
theorem wT (x kind mode:Int) (sum mxr:Bool):dm x kind mode sum mxr=(fG x kind mxr && fH x kind mode sum && me x kind):=by
 simp only [dm,fG,fH,me];by_cases k0:kind=0
 ·subst k0;simp only [if_pos];cases bR x 8 <;> cases bR x 64 <;> simp <;> split <;> simp
 by_cases k1:kind=1
 ·subst k1;simp only [if_neg k0,if_pos];by_cases m0:mode=0
  ·subst m0;simp
  by_cases m1:mode=1
  ·subst m1;simp
  ·simp [m0,m1]
 by_cases k2:kind=2
 ·subst k2;by_cases m0:mode=0
  ·subst m0;simp;cases bR x 64 <;> cases bR x 128 <;> cases bR x 4 <;> simp
  by_cases m1:mode=1
  ·subst m1;simp;cases bR x 64 <;> cases bR x 128 <;> cases bR x 4 <;> cases bR x 16 <;> cases sum <;> simp
  ·simp [m0,m1]
 ·simp [k0,k1,k2]
theorem ly (x kind mode:Int) (sum mxr:Bool) (w:World) (h0:0<=x) (h1:x<=18446744073709551615):
 Calls Tryz.prog 172 #[.int .u64 x,.int .i64 kind,.int .i64 mode,.bool sum,.bool mxr] w fun e w'=>e=.returned (.bool (dm x kind mode sum mxr))∧w'=w:=by
 rw [wT];cases hk:fG x kind mxr
 ·go_enter Tryz.func172,Tryz.ntmps172;go_wp2_with (first
   | (go_at_call 181;refine (jx x kind mxr _ h0 h1).mono ?_;rintro e w' ⟨rfl,rfl⟩;rw [hk]))
  go_ret;exact ⟨aE (by simp),rfl⟩
 cases hm:fH x kind mode sum
 ·go_enter Tryz.func172,Tryz.ntmps172;go_wp2_with (first
   | (go_at_call 181;refine (jx x kind mxr _ h0 h1).mono ?_;rintro e w' ⟨rfl,rfl⟩;rw [hk])
   | (go_at_call 182;refine (mz x kind mode sum _ h0 h1).mono ?_;rintro e w' ⟨rfl,rfl⟩;rw [hm]))
  go_ret;exact ⟨aE (by simp),rfl⟩
 ·go_enter Tryz.func172,Tryz.ntmps172;go_wp2_with (first
   | (go_at_call 181;refine (jx x kind mxr _ h0 h1).mono ?_;rintro e w' ⟨rfl,rfl⟩;rw [hk])
   | (go_at_call 182;refine (mz x kind mode sum _ h0 h1).mono ?_;rintro e w' ⟨rfl,rfl⟩;rw [hm])
   | (go_at_call 183;refine (zZ x kind _ h0 h1).mono ?_;rintro e w' ⟨rfl,rfl⟩))
  go_ret;exact ⟨aE (by simp),rfl⟩
theorem ko (level m:Int) (w:World) (h:(level=0∧m=63)∨(level=1∧m=511)∨(level=2∧m=4095)):
 Calls Tryz.prog 184 #[.int .i64 level] w fun e w'=>e=.returned (.int .u64 m)∧w'=w:=by
 rcases h with ⟨rfl,rfl⟩ | ⟨rfl,rfl⟩ | ⟨rfl,rfl⟩
 ·go_enter Tryz.func184,Tryz.ntmps184;go_wp2_with (go_at_call 81;refine (dt 6 63 _ (by omega)).mono ?_;rintro e w' ⟨rfl,rfl⟩);go_ret;exact ⟨rfl,rfl⟩
 ·go_enter Tryz.func184,Tryz.ntmps184;go_wp2_with (go_at_call 81;refine (dt 9 511 _ (by omega)).mono ?_;rintro e w' ⟨rfl,rfl⟩);go_ret;exact ⟨rfl,rfl⟩
 ·go_enter Tryz.func184,Tryz.ntmps184;go_wp2_with (go_at_call 81;refine (dt 12 4095 _ (by omega)).mono ?_;rintro e w' ⟨rfl,rfl⟩);go_ret;exact ⟨rfl,rfl⟩
theorem CH (x level va:Int) (w:World) (h0:0<=x) (h1:x<=18446744073709551615) (hl:level=0∨level=1∨level=2) (hv0:0<=va) (hv1:va<=18446744073709551615):
 Calls Tryz.prog 173 #[.int .u64 x,.int .i64 level,.int .u64 va] w fun e w'=>e=.returned (.int .u64 (fP x level va))∧w'=w:=by
 have hpp:0<=dG x∧dG x<17592186044416:=⟨Int.emod_nonneg _ (by omega),Int.emod_lt_of_pos _ (by omega)⟩;have HP:∀w,Hid (Calls Tryz.prog 185 #[.int .u64 x] w fun e w'=>e=.returned (.int .u64 (dG x))∧w'=w):=fun w=>uo x w h0 h1;have HE:Hid (fP x level va=dG x*64/gL level*gL level+va%gL level):=by
  show _=_;rw [fP,if_neg (by omega)]
 rw [HE.out];clear HE;generalize dG x=p at *;rcases hl with rfl | rfl | rfl
 ·have H:Hid (bits .or .u64 (bits .andNot .u64 (p*64) 63) (bits .and .u64 va 63)=p*64/gL 0*gL 0+va%gL 0):=
   mR 6 (p*64) va 63 64 rfl rfl (by omega) (by omega) (by omega) hv0 hv1
  go_enter Tryz.func173,Tryz.ntmps173;go_wp2_with (first
   | (go_at_call 185;refine ((HP _).out).mono ?_;rintro e w' ⟨rfl,rfl⟩)
   | (go_at_call 184;refine (ko 0 63 _ (by omega)).mono ?_;rintro e w' ⟨rfl,rfl⟩))
  go_ret;exact ⟨dH H.out,rfl⟩
 ·have H:Hid (bits .or .u64 (bits .andNot .u64 (p*64) 511) (bits .and .u64 va 511)=p*64/gL 1*gL 1+va%gL 1):=
   mR 9 (p*64) va 511 512 rfl rfl (by omega) (by omega) (by omega) hv0 hv1
  go_enter Tryz.func173,Tryz.ntmps173;go_wp2_with (first
   | (go_at_call 185;refine ((HP _).out).mono ?_;rintro e w' ⟨rfl,rfl⟩)
   | (go_at_call 184;refine (ko 1 511 _ (by omega)).mono ?_;rintro e w' ⟨rfl,rfl⟩))
  go_ret;exact ⟨dH H.out,rfl⟩
 ·have H:Hid (bits .or .u64 (bits .andNot .u64 (p*64) 4095) (bits .and .u64 va 4095)=p*64/gL 2*gL 2+va%gL 2):=
   mR 12 (p*64) va 4095 4096 rfl rfl (by omega) (by omega) (by omega) hv0 hv1
  go_enter Tryz.func173,Tryz.ntmps173;go_wp2_with (first
   | (go_at_call 185;refine ((HP _).out).mono ?_;rintro e w' ⟨rfl,rfl⟩)
   | (go_at_call 184;refine (ko 2 4095 _ (by omega)).mono ?_;rintro e w' ⟨rfl,rfl⟩))
  go_ret;exact ⟨dH H.out,rfl⟩
theorem Bn (va level:Int) (w:World) (hv0:0<=va) (hv1:va<=18446744073709551615) (hl:level=0∨level=1∨level=2):
 Calls Tryz.prog 188 #[.int .u64 va,.int .i64 level] w fun e w'=>e=.returned (.int .u64 (dN va level))∧∃n,w'=w.drewN n:=by
 rcases hl with rfl | rfl | rfl
 ·have H:=hid (eE 3 (va/64) 7 rfl (by omega) (by omega) (by omega));go_enter Tryz.func188,Tryz.ntmps188;go_wp2_with fail;go_quiet ((go_at_call 81;exact Calls.quiet_of_same (dt 3 7 _ (by omega))));go_wp2_with fail;go_ret;exact ⟨dH H.out,nq,rfl⟩
 ·have H:=hid (eE 3 (va/512) 7 rfl (by omega) (by omega) (by omega));go_enter Tryz.func188,Tryz.ntmps188;go_wp2_with fail;go_quiet ((go_at_call 81;exact Calls.quiet_of_same (dt 3 7 _ (by omega))));go_wp2_with fail;go_ret;exact ⟨dH H.out,nq,rfl⟩
 ·have H:=hid (eE 3 (va/4096) 7 rfl (by omega) (by omega) (by omega));go_enter Tryz.func188,Tryz.ntmps188;go_wp2_with fail;go_quiet ((go_at_call 81;exact Calls.quiet_of_same (dt 3 7 _ (by omega))));go_wp2_with fail;go_ret;exact ⟨dH H.out,nq,rfl⟩
theorem vX (n:Nat):∀(x:Int) (w:World),n<=8->0<=x->x<=18446744073709551615->
 Calls Tryz.prog 124 #[.int .u64 x,.int .i64 n] w fun e w'=>
  ∃g cap,e=.returned (.slice (some ⟨g,0,none⟩) n cap)∧OwnB 5 w' w.heap.size g n cap (da x n)∧Bw w w':=by
 induction n with
 | zero=>
  intro x w hn h0 h1;go_enter Tryz.func124,Tryz.ntmps124;go_wp2_with fail;go_ret;exact ⟨_,_,rfl,OwnB.new _ _ [] 0 rfl (by decide),(Below.refl _ _).alloc nle _⟩
 | succ n ih=>
  intro x w hn h0 h1;have hp:(((n+1:Nat):Int) == 0)=false:=by simp;omega
  have IH:Hid (∀(x:Int) (w:World),n<=8->0<=x->x<=18446744073709551615->
   Calls Tryz.prog 124 #[.int .u64 x,.int .i64 n] w fun e w'=>
    ∃g cap,e=.returned (.slice (some ⟨g,0,none⟩) n cap)∧OwnB 5 w' w.heap.size g n cap (da x n)∧Bw w w'):=ih
  clear ih;go_enter Tryz.func124,Tryz.ntmps124;go_wp2_with fail;have o1:=OwnB.new 5 w [x%256] 1 rfl (by decide);have n1:Bw w (w.alloc (Obj.cells #[Value.int IntKind.u8 (x%256)] 5)):=(Below.refl _ _).alloc nle _;simp only [List.map_cons,List.map_nil] at o1;generalize w.alloc (Obj.cells #[Value.int IntKind.u8 (x%256)] 5)=v1 at o1 n1 |-;refine (IH.out (x/256) v1 (by omega) (by omega) (by omega)).mono ?_;rintro e v2 ⟨g,cap,rfl,o2,n2⟩;have o3:=o1.keep n2 o1.facts.2.2.1;have f2:=o2.facts;have n3:=bst n1 n2;have hlt:=o3.facts.2.2.1;have b2:=o2.byt (fY (nm n _));clear o1 n1 n2 IH;go_wp2_with (at_builtin;refine gM _ rfl (.tmp 11) (.tmp 16) 22 rfl 5 Tryz.underlying22 Tryz.infoB w.heap.size _ _ _ _ rfl o3 g 0 n cap (da (x/256) n) rfl b2 (by omega) _ _ n3 nle ?_;intro g' cap' v4 o4 n4);go_ret;rw [Nat.add_comm 1 n] at o4;exact ⟨g',cap',xZ (Nat.add_comm 1 n),o4,n4⟩
theorem zC (b off len cap k g o n capb:Nat) (zs ys:List Int) (w:World) (hz:Byt w (some ⟨b,off,none⟩) len zs) (hy:Byt w (some ⟨g,o,none⟩) n ys) (hl:len<=1048576) (hk:k+n<=len) (hc:len<=cap) (hm:cap<=9223372036854775807):
 Calls Tryz.prog 125 #[.slice (some ⟨b,off,none⟩) len cap,.int .i64 k,.slice (some ⟨g,o,none⟩) n capb] w fun e w'=>
  ∃g' cap',e=.returned (.slice (some ⟨g',0,none⟩) len cap')∧OwnB 5 w' w.heap.size g' len cap' (zs.take k++ys++zs.drop (k+n))∧Bw w w':=by
 have hzl:=hz.1;have hyl:=hy.1;have o1:=OwnB.new 5 w [] 0 rfl (by decide);have n1:Bw w (w.alloc (Obj.cells #[] 5)):=(Below.refl _ _).alloc nle _;simp only [List.map_nil] at o1;have x1:=(hz.take k (by omega)).keep n1;have fin:∀(a:Option Addr),(k+n<len->a=some ⟨b,off+(k+n),none⟩)->∀v:World,Bw w v->Byt v a (len-(k+n)) (zs.drop (k+n)):=fun a ha v hv=>
  (hz.drop (k+n) (len-(k+n)) hk rfl a ha).keep hv
 have FIN:Hid _:=fin;have hlen:k+n+(len-(k+n))=len:=by omega
 have HL:=hid hlen;clear fin hlen;by_cases hcc:cap=k+n
 ·subst hcc;go_enter Tryz.func125,Tryz.ntmps125;go_wp2_with (first
   | (at_builtin;refine gM _ rfl (.tmp 8) (.tmp 11) 22 rfl 5 Tryz.underlying22 Tryz.infoB w.heap.size _ _ _ _ rfl o1 b off k _ (zs.take k) rfl x1 (by omega) _ _ n1 nle ?_;intro g2 cap2 v2 o2 n2;rw [Nat.zero_add] at o2 |-;have y2:=hy.keep n2;clear o1 n1 x1)
   | (at_builtin;refine gM _ rfl (.tmp 13) (.tmp 14) 22 rfl 5 Tryz.underlying22 Tryz.infoB w.heap.size _ _ _ _ rfl o2 g o n _ ys rfl y2 (by omega) _ _ n2 nle ?_;intro g3 cap3 v3 o3 n3;clear o2 n2 y2 hz hy)
   | (at_builtin;refine gM _ rfl (.tmp 16) (.tmp 22) 22 rfl 5 Tryz.underlying22 Tryz.infoB w.heap.size _ _ _ _ rfl o3 b (off) (len-(k+n)) _ (zs.drop (k+n)) rfl (FIN.out _ (fun h=>by omega) _ n3) (by omega) _ _ n3 nle ?_;intro g4 cap4 v4 o4 n4;clear o3 n3))
  go_ret;rw [HL.out] at o4;exact ⟨g4,cap4,xZ (by omega),o4,n4⟩
 ·have hcl:k+n<cap:=by omega
  clear hcc;go_enter Tryz.func125,Tryz.ntmps125;go_wp2_with (first
   | (at_builtin;refine gM _ rfl (.tmp 8) (.tmp 11) 22 rfl 5 Tryz.underlying22 Tryz.infoB w.heap.size _ _ _ _ rfl o1 b off k _ (zs.take k) rfl x1 (by omega) _ _ n1 nle ?_;intro g2 cap2 v2 o2 n2;rw [Nat.zero_add] at o2 |-;have y2:=hy.keep n2;clear o1 n1 x1)
   | (at_builtin;refine gM _ rfl (.tmp 13) (.tmp 14) 22 rfl 5 Tryz.underlying22 Tryz.infoB w.heap.size _ _ _ _ rfl o2 g o n _ ys rfl y2 (by omega) _ _ n2 nle ?_;intro g3 cap3 v3 o3 n3;clear o2 n2 y2 hz hy)
   | (at_builtin;refine gM _ rfl (.tmp 16) (.tmp 22) 22 rfl 5 Tryz.underlying22 Tryz.infoB w.heap.size _ _ _ _ rfl o3 b (off+(k+n)) (len-(k+n)) _ (zs.drop (k+n)) rfl (FIN.out _ (fun _=>rfl) _ n3) (by omega) _ _ n3 nle ?_;intro g4 cap4 v4 o4 n4;clear o3 n3))
  go_ret;rw [HL.out] at o4;exact ⟨g4,cap4,xZ (by omega),o4,n4⟩
theorem qD (a:Option Addr) (len cap:Nat) (addr n:Int) (w:World) (hl:len<=1048576) (h0:0<=addr) (h1:addr<=18446744073709551615) (h2:0<=n) (h3:n<=18446744073709551615):
 Calls Tryz.prog 68 #[.slice a len cap,.int .u64 addr,.int .u64 n] w fun e w'=>e=.returned (.bool (fA len addr n))∧w'=w:=by
 by_cases hh:n<=(len:Int);all_goals
  go_enter Tryz.func68,Tryz.ntmps68;go_wp2;all_goals
   go_ret;exact ⟨by simp [fA];try omega,rfl⟩
theorem tr (a:Option Addr) (len cap:Nat) (addr n:Int) (w:World) (hl:len<=1048576) (h0:0<=addr) (h1:addr<=18446744073709551615) (h3:n<=9223372036854775807):
 Calls Tryz.prog 207 #[.slice a len cap,.int .u64 addr,.int .i64 n] w fun e w'=>e=.returned (.bool (dP len addr n))∧w'=w:=by
 by_cases hn:n=1∨n=2∨n=4∨n=8
 ·rw [<-lH len addr n hn];rcases hn with rfl | rfl | rfl | rfl;all_goals
   go_enter Tryz.func207,Tryz.ntmps207;go_wp2_with (go_at_call 68;refine (qD _ _ _ _ _ _ hl h0 h1 (by omega) (by omega)).mono ?_;rintro e w' ⟨rfl,rfl⟩);go_ret;exact ⟨rfl,rfl⟩
 ·have n1:(n == 1)=false:=by simp;omega
  have n2:(n == 2)=false:=by simp;omega
  have n4:(n == 4)=false:=by simp;omega
  have n8:(n == 8)=false:=by simp;omega
  have hg:dP len addr n=false:=by simp [dP];omega
  rw [hg];clear hn hg;go_enter Tryz.func207,Tryz.ntmps207;go_wp2_with fail;go_ret;exact ⟨rfl,rfl⟩
theorem lJ (b off len cap k:Nat) (zs:List Int) (w:World) (h:Cel w b off len zs) (hk:k<len) (hl:len<=1048576):
 Calls Tryz.prog 101 #[.slice (some ⟨b,off,none⟩) len cap,.int .u64 k] w fun e w'=>e=.returned (.int .u64 (zs[k]?.getD 0))∧w'=w:=by
 have hcell:=h.2.2 k hk;have hb:=h.2.1 k;obtain ⟨z,hz'⟩:∃z,z=zs[k]?.getD 0:=⟨_,rfl⟩;rw [<-hz'] at hcell hb |-;clear hz' h;go_enter Tryz.func101,Tryz.ntmps101;go_wp2_with fail;go_ret;exact ⟨rfl,rfl⟩
theorem ts (b off len cap k:Nat) (zs:List Int) (w:World) (h:Cel w b off len zs) (hk:k+2<=len) (hl:len<=1048576):
 Calls Tryz.prog 210 #[.slice (some ⟨b,off,none⟩) len cap,.int .u64 k] w fun e w'=>e=.returned (.int .u64 (num ((zs.drop k).take 2)))∧w'=w:=by
 have hb1:=h.2.1 k;have hb2:=h.2.1 (k+1);have HF:Hid (bits .or .u64 (zs[k]?.getD 0) (zs[k+1]?.getD 0*256)=num ((zs.drop k).take 2)):=by
  rw [BZ zs k (by have:=h.1;omega)];exact eR 8 256 _ _ rfl hb1.1 (by omega) hb2.1 (by omega) (by omega)
 go_enter Tryz.func210,Tryz.ntmps210;go_wp2_with fail;refine (lJ b off len cap k zs w h (by omega) hl).mono ?_;rintro e w' ⟨rfl,rfl⟩;go_wp2_with fail;rw [show ((k:Int)+1)=((k+1:Nat):Int) by omega];refine (lJ b off len cap (k+1) zs _ h (by omega) hl).mono ?_;rintro e w' ⟨rfl,rfl⟩;go_wp2_with fail;go_ret;exact ⟨dH HF.out,rfl⟩
theorem tu (b off len cap k:Nat) (zs:List Int) (w:World) (h:Cel w b off len zs) (hk:k+4<=len) (hl:len<=1048576):
 Calls Tryz.prog 209 #[.slice (some ⟨b,off,none⟩) len cap,.int .u64 k] w fun e w'=>e=.returned (.int .u64 (num ((zs.drop k).take 4)))∧w'=w:=by
 have hb1:=fT zs k 2 h.2.1;have hb2:=fT zs (k+2) 2 h.2.1;simp at hb1 hb2;have HF:Hid (bits .or .u64 (num ((zs.drop k).take 2)) (num ((zs.drop (k+2)).take 2)*65536)=num ((zs.drop k).take 4)):=by
  rw [vl zs k 2 (by have:=h.1;omega)];exact eR 16 65536 _ _ rfl hb1.1 (by omega) hb2.1 (by omega) (by omega)
 go_enter Tryz.func209,Tryz.ntmps209;go_wp2_with fail;refine (ts b off len cap k zs w h (by omega) hl).mono ?_;rintro e w' ⟨rfl,rfl⟩;go_wp2_with fail;rw [show ((k:Int)+2)=((k+2:Nat):Int) by omega];refine (ts b off len cap (k+2) zs _ h (by omega) hl).mono ?_;rintro e w' ⟨rfl,rfl⟩;go_wp2_with fail;go_ret;exact ⟨dH HF.out,rfl⟩
theorem zi (b off len cap k:Nat) (zs:List Int) (w:World) (h:Cel w b off len zs) (hk:k+8<=len) (hl:len<=1048576):
 Calls Tryz.prog 208 #[.slice (some ⟨b,off,none⟩) len cap,.int .u64 k] w fun e w'=>e=.returned (.int .u64 (num ((zs.drop k).take 8)))∧w'=w:=by
 have hb1:=fT zs k 4 h.2.1;have hb2:=fT zs (k+4) 4 h.2.1;simp at hb1 hb2;have HF:Hid (bits .or .u64 (num ((zs.drop k).take 4)) (num ((zs.drop (k+4)).take 4)*4294967296)=num ((zs.drop k).take 8)):=by
  rw [vl zs k 4 (by have:=h.1;omega)];exact eR 32 4294967296 _ _ rfl hb1.1 (by omega) hb2.1 (by omega) (by omega)
 go_enter Tryz.func208,Tryz.ntmps208;go_wp2_with fail;refine (tu b off len cap k zs w h (by omega) hl).mono ?_;rintro e w' ⟨rfl,rfl⟩;go_wp2_with fail;rw [show ((k:Int)+4)=((k+4:Nat):Int) by omega];refine (tu b off len cap (k+4) zs _ h (by omega) hl).mono ?_;rintro e w' ⟨rfl,rfl⟩;go_wp2_with fail;go_ret;exact ⟨dH HF.out,rfl⟩
theorem uF (n level va:Int) (w:World) (hv0:0<=va) (hv1:va<=18446744073709551615) (hl:level=0∨level=1∨level=2) (hn0:0<=n) (hn1:n<17592186044416):
 Calls Tryz.prog 186 #[.int .u64 n,.int .i64 level,.int .u64 va] w fun e w'=>e=.returned (.int .u64 (64*n+8*dN va level))∧∃q,w'=w.drewN q:=by
 obtain ⟨ix,hix⟩:∃ix,dN va level=ix:=⟨_,rfl⟩;have hib:=qG va level;have HI:=hid hix;have HE:Hid (n*64+ix*8=64*n+8*ix):=show _=_ by omega
 rw [hix] at hib |-;clear hix;go_enter Tryz.func186,Tryz.ntmps186;go_wp2_with fail;refine (Bn va level w hv0 hv1 hl).mono ?_;rintro e w' ⟨rfl,nq,rfl⟩;rw [HI.out];go_wp2_with fail;go_ret;exact ⟨dH HE.out,nq,rfl⟩
theorem wQ (a:Option Addr) (len cap:Nat) (addr:Int) (w:World) (hl:len<=1048576) (h0:0<=addr) (h1:addr<=18446744073709551615) (hg:dP len addr 8=false):
 Calls Tryz.prog 206 #[.slice a len cap,.int .u64 addr] w fun e w'=>e=.returned (.tuple #[.int .u64 0,.bool false])∧w'=w:=by
 have HG:=hid hg;clear hg;go_enter Tryz.func206,Tryz.ntmps206;go_wp2_with (go_at_call 207;refine (tr _ _ _ _ _ _ hl h0 h1 (by omega)).mono ?_;rintro e w' ⟨rfl,rfl⟩;rw [HG.out]);exact bodyPost_ret (v:=.tuple #[.int .u64 0,.bool false]) (by simp [results,Tryz.results206,go_sem]) rfl ⟨rfl,rfl⟩
theorem ye (a:Option Addr) (len cap:Nat) (zs:List Int) (addr:Int) (w:World) (h:Byt w a len zs) (hl:len<=1048576) (h0:0<=addr) (h1:addr<=18446744073709551615) (hg:dP len addr 8=true):
 Calls Tryz.prog 206 #[.slice a len cap,.int .u64 addr] w fun e w'=>e=.returned (.tuple #[.int .u64 (rdV zs addr 8),.bool true])∧w'=w:=by
 have hz:=h.1;have hv:rdV zs addr 8=num ((zs.drop addr.toNat).take 8):=by simp [rdV,hz,hg]
 rw [hv];have hg':=hg;simp only [dP,decide_eq_true_eq] at hg';obtain ⟨hn,hn1,hn2⟩:=hg';obtain ⟨k,rfl⟩:=Int.eq_ofNat_of_zero_le h0;obtain ⟨b,off,rfl⟩:∃b off,a=some ⟨b,off,none⟩:=by
  rcases h.2.2 with hy | ⟨b,off,rfl,hb,hcl⟩
  ·omega
  ·exact ⟨b,off,rfl⟩
 have HG:=hid hg;have HC:=Cel.of_byt h;clear hg hv h;rw [Int.toNat_natCast];go_enter Tryz.func206,Tryz.ntmps206;go_wp2_with (first
  | (go_at_call 207;refine (tr _ _ _ _ _ _ hl h0 h1 (by omega)).mono ?_;rintro e w' ⟨rfl,rfl⟩;rw [HG.out])
  | (go_at_call 208;refine (zi b off len cap k zs _ HC (by omega) hl).mono ?_;rintro e w' ⟨rfl,rfl⟩))
 exact bodyPost_ret (v:=.tuple #[.int .u64 (num ((zs.drop k).take 8)),.bool true]) (by simp [results,Tryz.results206,go_sem]) rfl ⟨rfl,rfl⟩
theorem DB (w:World):(Instr.typeAssert (.iface 248 (.agg #[])) 236 248 true).run Tryz.prog w=.ok (.tuple #[.agg #[],.bool true]) w:=by kernel_rfl
theorem DC (w:World):(Instr.typeAssert (.iface 249 (.agg #[])) 236 248 true).run Tryz.prog w=.ok (.tuple #[.agg #[],.bool false]) w:=by kernel_rfl
theorem DD (w:World):(Instr.typeAssert (.iface 249 (.agg #[])) 236 249 true).run Tryz.prog w=.ok (.tuple #[.agg #[],.bool true]) w:=by kernel_rfl
theorem DE (w:World):(Instr.typeAssert .nilIface 236 248 true).run Tryz.prog w=.ok (.tuple #[.agg #[],.bool false]) w:=by kernel_rfl
theorem DF (w:World):(Instr.typeAssert .nilIface 236 249 true).run Tryz.prog w=.ok (.tuple #[.agg #[],.bool false]) w:=by kernel_rfl
def cF (code:Int):Value:=if code=1 then .nilIface else if code=2 then .iface 248 (.agg #[]) else .iface 249 (.agg #[])
theorem uv (kind:Int) (w:World):Calls Tryz.prog 143 #[.int .i64 kind] w fun e w'=>e=.returned (.int .i64 (eA kind))∧w'=w:=by
 by_cases k0:kind=0
 ·subst k0;go_enter Tryz.func143,Tryz.ntmps143;go_wp2_with fail;go_ret;exact ⟨rfl,rfl⟩
 have k0':(kind == 0)=false:=by simpa using k0
 by_cases k1:kind=1
 ·subst k1;go_enter Tryz.func143,Tryz.ntmps143;go_wp2_with fail;go_ret;exact ⟨rfl,rfl⟩
 have k1':(kind == 1)=false:=by simpa using k1
 have HE:Hid (eA kind=15):=by show _=_;rw [eA,if_neg k0,if_neg k1]
 clear k0 k1;go_enter Tryz.func143,Tryz.ntmps143;go_wp2_with fail;go_ret;exact ⟨cx HE.out.symm,rfl⟩
theorem kU (kind:Int) (w:World):Calls Tryz.prog 131 #[.int .i64 kind] w fun e w'=>e=.returned (.int .i64 (bL kind))∧w'=w:=by
 by_cases k0:kind=0
 ·subst k0;go_enter Tryz.func131,Tryz.ntmps131;go_wp2_with fail;go_ret;exact ⟨rfl,rfl⟩
 have k0':(kind == 0)=false:=by simpa using k0
 by_cases k1:kind=1
 ·subst k1;go_enter Tryz.func131,Tryz.ntmps131;go_wp2_with fail;go_ret;exact ⟨rfl,rfl⟩
 have k1':(kind == 1)=false:=by simpa using k1
 have HE:Hid (bL kind=7):=by show _=_;rw [bL,if_neg k0,if_neg k1]
 clear k0 k1;go_enter Tryz.func131,Tryz.ntmps131;go_wp2_with fail;go_ret;exact ⟨cx HE.out.symm,rfl⟩
theorem rJ (c kind:Int) (w:World) (hc:c=1∨c=2∨c=3):
 Calls Tryz.prog 133 #[cF c,.int .i64 kind] w fun e w'=>e=.returned (.int .i64 (if c=1 then 0 else if c=2 then eA kind else bL kind))∧w'=w:=by
 have t1:=DB;have t2:=DC;have t3:=DD;have t4:=DE;have t5:=DF;rcases hc with rfl | rfl | rfl;all_goals
  simp only [cF,if_pos,Int.reduceEq];go_enter Tryz.func133,Tryz.ntmps133;go_wp2_with (first
   | (go_at_call 143;refine (uv kind _).mono ?_;rintro e w' ⟨rfl,rfl⟩)
   | (go_at_call 131;refine (kU kind _).mono ?_;rintro e w' ⟨rfl,rfl⟩))
  go_ret;exact ⟨rfl,rfl⟩
end Go.Proofs.YtpdddbobhndbjaaGreat
