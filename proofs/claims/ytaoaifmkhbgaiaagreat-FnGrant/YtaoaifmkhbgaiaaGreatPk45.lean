import Derived.Test.YtaoaifmkhbgaiaaGreatPk09
import Derived.Test.YtaoaifmkhbgaiaaGreatPk07
import Derived.Test.YtaoaifmkhbgaiaaGreatPk41
import Derived.StillTailTactics
import Derived.Deep.DeepCutAuto
import Derived.Deep.RegionHeld3
import Derived.Test.YtaoaifmkhbgaiaaGreatPk18
import Derived.Test.YtaoaifmkhbgaiaaGreatPk42
import Derived.Test.YtaoaifmkhbgaiaaGreatPk06
import Derived.Test.YtaoaifmkhbgaiaaGreatPk44
namespace Go.Proofs.YtaoaifmkhbgaiaaGreat
open Go.RowKit
theorem iH {v:World} {p:Nat} {cs:Array Value} {T:TypeId} (h:v.heap[p]?=some (.cells cs T (0,0))) (i:Nat) (x:Value) (hx:cs[i]?=some x):v.cell? ⟨p,i,none⟩=some x:=by
 simp [World.cell?,h,hx]
end Go.Proofs.YtaoaifmkhbgaiaaGreat

namespace Go.Proofs.YtaoaifmkhbgaiaaGreat
open Go.RowKit
set_option linter.unusedVariables false
def Keeps (w w':World) (x y z:Nat):Prop:=
 w'.os=w.os∧w'.tape=w.tape∧w'.output=w.output∧w.heap.size≤w'.heap.size∧∀i,i<w.heap.size→i≠x→i≠y→i≠z→w'.heap[i]?=w.heap[i]?
theorem Keeps.refl (w:World) (x y z:Nat):Keeps w w x y z:=⟨rfl,rfl,rfl,Nat.le_refl _,fun _ _ _ _ _=>rfl⟩
theorem Keeps.of_below {w w':World} (x y z:Nat) (h:Below w.heap.size w w'):Keeps w w' x y z:=⟨h.os,h.tape,h.output,h.size,fun i hi _ _ _=>h.block i hi⟩
theorem Keeps.of_gb {w w':World} {r:Nat} (x y z:Nat) (h:w.grownBy w' (some r)) (hr:r=x∨r=y∨r=z):Keeps w w' x y z:=
 ⟨h.os,h.tape,h.output,h.size,fun i hi h1 h2 h3=>h.block i hi (by
  simp only [ne_eq,Option.some.injEq];rcases hr with rfl | rfl | rfl <;> (intro e;subst e;contradiction))⟩
theorem Keeps.trans {a b c:World} {x y z:Nat} (h:Keeps a b x y z) (k:Keeps b c x y z):Keeps a c x y z:=
 ⟨k.1.trans h.1,k.2.1.trans h.2.1,k.2.2.1.trans h.2.2.1,Nat.le_trans h.2.2.2.1 k.2.2.2.1,fun i hi h1 h2 h3=>(k.2.2.2.2 i (Nat.lt_of_lt_of_le hi h.2.2.2.1) h1 h2 h3).trans (h.2.2.2.2 i hi h1 h2 h3)⟩
theorem Keeps.heap {w w':World} {x y z i:Nat} {o:Obj} (h:Keeps w w' x y z) (hi:w.heap[i]?=some o) (h1:i≠x) (h2:i≠y) (h3:i≠z):w'.heap[i]?=some o:=
 (h.2.2.2.2 i (Array.getElem?_eq_some_iff.1 hi).1 h1 h2 h3).trans hi
theorem Keeps.below {w w' a:World} {B x y z:Nat} (hb:Below B a w) (h:Keeps w w' x y z) (hB:B≤w.heap.size) (h1:B≤x) (h2:B≤y) (h3:B≤z):Below B a w':=
 hb.trans ⟨h.1,h.2.1,h.2.2.1,h.2.2.2.1,fun k hk=>h.2.2.2.2 k (by omega) (by omega) (by omega) (by omega)⟩
def sl (k:KM) (gi gd gp:Nat):Array Value:=
 #[.int .i64 k.i.sets,.int .i64 k.i.ways,.slice (some ⟨gi,0,none⟩) k.i.es.length k.i.es.length,.int .i64 k.d.sets,.int .i64 k.d.ways,.slice (some ⟨gd,0,none⟩) k.d.es.length k.d.es.length,.int .i64 k.p.sets,.int .i64 k.p.ways,.slice (some ⟨gp,0,none⟩) k.p.es.length k.p.es.length]
def RowsAt (w:World) (base gi gd gp:Nat) (k:KM):Prop:=
 w.ownsRow base 173 6 (.slice (some ⟨gi,0,none⟩) k.i.es.length k.i.es.length) k.i.es.length (aH k.i.es)∧
 w.ownsRow base 173 6 (.slice (some ⟨gd,0,none⟩) k.d.es.length k.d.es.length) k.d.es.length (aH k.d.es)∧
 w.ownsRow base 183 6 (.slice (some ⟨gp,0,none⟩) k.p.es.length k.p.es.length) k.p.es.length (aH k.p.es)∧gi≠gd∧gi≠gp∧gd≠gp
theorem RowsAt.keep {w w':World} {base gi gd gp:Nat} {k:KM} (h:RowsAt w base gi gd gp k) (hb:Below w.heap.size w w'):RowsAt w' base gi gd gp k:=
 ⟨aj h.1 hb,aj h.2.1 hb,aj h.2.2.1 hb,h.2.2.2⟩
theorem mH {e:TypeId} {size:Nat} {w w':World} {base n r g c:Nat} {cs:List Value} (h:w.ownsRow base e size (.slice (some ⟨g,0,none⟩) n c) n cs) (hg:w.grownBy w' (some r)) (hr:g≠r):w'.ownsRow base e size (.slice (some ⟨g,0,none⟩) n c) n cs:=by
 refine h.kept hg (.inr ?_);simp [Value.ownBlock];exact hr
theorem RowsAt.putP {w w':World} {base gi gd gp:Nat} {k:KM} {es:List EntM} (h:RowsAt w base gi gd gp k) (hg:w.grownBy w' (some gp)) (hl:es.length=k.p.es.length) (ho:w'.ownsRow base 183 6 (.slice (some ⟨gp,0,none⟩) k.p.es.length k.p.es.length) k.p.es.length (aH es)):
 RowsAt w' base gi gd gp ⟨k.i,k.d,⟨k.p.sets,k.p.ways,es⟩⟩:=by
 obtain ⟨h1,h2,h3,d1,d2,d3⟩:=h;refine ⟨mH h1 hg d2,mH h2 hg d3,?_,d1,d2,d3⟩;simp only;rw [hl];exact ho
theorem RowsAt.putI {w w':World} {base gi gd gp:Nat} {k:KM} {es:List EntM} (h:RowsAt w base gi gd gp k) (hg:w.grownBy w' (some gi)) (hl:es.length=k.i.es.length) (ho:w'.ownsRow base 173 6 (.slice (some ⟨gi,0,none⟩) k.i.es.length k.i.es.length) k.i.es.length (aH es)):
 RowsAt w' base gi gd gp ⟨⟨k.i.sets,k.i.ways,es⟩,k.d,k.p⟩:=by
 obtain ⟨h1,h2,h3,d1,d2,d3⟩:=h;refine ⟨?_,mH h2 hg (Ne.symm d1),mH h3 hg (Ne.symm d2),d1,d2,d3⟩;simp only;rw [hl];exact ho
theorem RowsAt.putD {w w':World} {base gi gd gp:Nat} {k:KM} {es:List EntM} (h:RowsAt w base gi gd gp k) (hg:w.grownBy w' (some gd)) (hl:es.length=k.d.es.length) (ho:w'.ownsRow base 173 6 (.slice (some ⟨gd,0,none⟩) k.d.es.length k.d.es.length) k.d.es.length (aH es)):
 RowsAt w' base gi gd gp ⟨k.i,⟨k.d.sets,k.d.ways,es⟩,k.p⟩:=by
 obtain ⟨h1,h2,h3,d1,d2,d3⟩:=h;refine ⟨mH h1 hg d1,?_,mH h3 hg (Ne.symm d3),d1,d2,d3⟩;simp only;rw [hl];exact ho
def SetAt (w:World) (b base gi gd gp:Nat) (k:KM):Prop:=
 w.heap[b]?=some (.cells (sl k gi gd gp) 111 (0,0))∧RowsAt w base gi gd gp k∧b≠gi∧b≠gd∧b≠gp
theorem SetAt.keep {w w':World} {b base gi gd gp:Nat} {k:KM} (h:SetAt w b base gi gd gp k) (hb:Below w.heap.size w w'):SetAt w' b base gi gd gp k:=
 ⟨ab h.1 hb (Array.getElem?_eq_some_iff.1 h.1).1,h.2.1.keep hb,h.2.2⟩
theorem SetAt.lt {w:World} {b base gi gd gp:Nat} {k:KM} (h:SetAt w b base gi gd gp k):b<w.heap.size:=(Array.getElem?_eq_some_iff.1 h.1).1
theorem SetAt.cellI {w:World} {b base gi gd gp:Nat} {k:KM} (h:SetAt w b base gi gd gp k):
 w.cell? ⟨b,0,none⟩=some (.int .i64 k.i.sets)∧w.cell? ⟨b,0+1,none⟩=some (.int .i64 k.i.ways)∧w.cell? ⟨b,0+2,none⟩=some (.slice (some ⟨gi,0,none⟩) k.i.es.length k.i.es.length):=
 ⟨iH h.1 0 _ rfl,iH h.1 1 _ rfl,iH h.1 2 _ rfl⟩
theorem SetAt.cellD {w:World} {b base gi gd gp:Nat} {k:KM} (h:SetAt w b base gi gd gp k):
 w.cell? ⟨b,3,none⟩=some (.int .i64 k.d.sets)∧w.cell? ⟨b,3+1,none⟩=some (.int .i64 k.d.ways)∧w.cell? ⟨b,3+2,none⟩=some (.slice (some ⟨gd,0,none⟩) k.d.es.length k.d.es.length):=
 ⟨iH h.1 3 _ rfl,iH h.1 4 _ rfl,iH h.1 5 _ rfl⟩
theorem SetAt.cellP {w:World} {b base gi gd gp:Nat} {k:KM} (h:SetAt w b base gi gd gp k):
 w.cell? ⟨b,6,none⟩=some (.int .i64 k.p.sets)∧w.cell? ⟨b,6+1,none⟩=some (.int .i64 k.p.ways)∧w.cell? ⟨b,6+2,none⟩=some (.slice (some ⟨gp,0,none⟩) k.p.es.length k.p.es.length):=
 ⟨iH h.1 6 _ rfl,iH h.1 7 _ rfl,iH h.1 8 _ rfl⟩
end Go.Proofs.YtaoaifmkhbgaiaaGreat

namespace Go.Proofs.YtaoaifmkhbgaiaaGreat
open Go.RowKit
set_option linter.unusedVariables false
theorem zR (x:Int) (w:World) (h0:0≤x) (h1:x≤18446744073709551615):
 Calls Tryz.prog 149 #[.int .u64 x] w fun e w'=>e=.returned (.int .u64 (dK x))∧w'=w:=by
 go_enter Tryz.func149,Tryz.ntmps149;go_wp2_with (go_at_call 155;refine (ud x _ h0 h1).mono ?_;rintro e w' ⟨rfl,rfl⟩);go_ret;exact ⟨rfl,rfl⟩
end Go.Proofs.YtaoaifmkhbgaiaaGreat

namespace Go.Proofs.YtaoaifmkhbgaiaaGreat
open Go.RowKit
set_option linter.unusedVariables false
theorem tB (b:Nat) (kind:Int) (w:World):
 Calls Tryz.prog 102 #[.pointer (some ⟨b,0,none⟩),.int .i64 kind] w fun e w'=>e=.returned (.pointer (some ⟨b,if kind=0 then 0 else 3,none⟩))∧w'=w:=by
 by_cases h:kind=0
 ·subst h;go_enter Tryz.func102,Tryz.ntmps102;go_wp2_with fail;go_ret;exact ⟨rfl,rfl⟩
 ·rw [if_neg h];go_enter Tryz.func102,Tryz.ntmps102;go_wp2_with fail;go_ret;exact ⟨rfl,rfl⟩
theorem sK (lv:Int) (ra:Option Addr) (n rc:Nat) (w:World):
 Calls Tryz.prog 136 #[.agg #[.int .i64 lv,.int .u64 0,.slice ra n rc]] w fun e w'=>e=.returned (.slice ra n rc)∧Below w.heap.size w w':=by
 have n1:=(Below.refl w.heap.size w).alloc (Nat.le_refl _) (Obj.cells #[.int .i64 lv,.int .u64 0,.slice ra n rc] 179);go_enter Tryz.func136,Tryz.ntmps136;go_wp2_with fail;go_ret;exact ⟨rfl,n1⟩
theorem sL (lv lf:Int) (g n rc:Nat) (w:World) (h:lf≠0) (hn:n≤3) (hn1:n+1≤rc) (hrc:rc≤9223372036854775807):
 Calls Tryz.prog 136 #[.agg #[.int .i64 lv,.int .u64 lf,.slice (some ⟨g,0,none⟩) (n+1) rc]] w fun e w'=>e=.returned (.slice (some ⟨g,0,none⟩) n rc)∧Below w.heap.size w w':=by
 have n1:=(Below.refl w.heap.size w).alloc (Nat.le_refl _) (Obj.cells #[.int .i64 lv,.int .u64 lf,.slice (some ⟨g,0,none⟩) (n+1) rc] 179);have h':(lf == 0)=false:=by simpa using h
 go_enter Tryz.func136,Tryz.ntmps136;go_wp2_with fail;go_ret;exact ⟨by simp,n1⟩
set_option maxRecDepth 20000 in
set_option maxHeartbeats 3200000 in
theorem w6 (b base gi gd gp:Nat) (k:KM) (sv:Value) (zs:List Int) (satp va:Int) (w:World) (hS:SetAt w b base gi gd gp k) (hk:aG k.p true=true) (hko:∀e∈k.p.es,dq e) (hkl:k.p.es.length≤1048576)
 (hB:SrcAt w sv zs) (hv0:0≤va) (hv1:va≤18446744073709551615) (hr0:0≤satp) (hr1:satp≤18446744073709551615):
 Calls Tryz.prog 135 #[.pointer (some ⟨b,0,none⟩),sv,.int .u64 satp,.int .u64 va] w fun e w'=>ui w.heap.size w' e (aW zs satp va (aO k.p va (ay satp)))∧Below w.heap.size w w':=by
 have HS:Hid (SetAt w b base gi gd gp k):=hS;have HB:Hid (SrcAt w sv zs):=hB;have hb:=hS.lt;obtain ⟨⟨f,i,l,pt⟩,hX⟩:∃X,aO k.p va (ay satp)=X:=⟨_,rfl⟩;have HX:Hid (aO k.p va (ay satp)=(f,i,l,pt)):=hX;have HGet:Hid (f=true→∃(q:Nat) (x:EntM),k.p.es[q]?=some x∧i=(q:Int)∧l=x.level∧pt=x.pte∧(x.level=1∨x.level=2)):=fun hf=>by
  obtain ⟨q,x,h1,h2,h3,h4,_,h6⟩:=kM k.p va (ay satp) (by rw [hX];exact hf);rw [hX] at h2 h3 h4;refine ⟨q,x,h1,h2,h3,h4,?_⟩;have hp:=jT hk q x h1;simp only [cx,Bool.or_eq_true,Bool.and_eq_true,beq_iff_eq] at hp;rcases hp with hp | hp
  ·rw [h6] at hp;simp at hp
  ·have hg:=hp.1;simp only [aS,Bool.and_eq_true,decide_eq_true_eq,beq_iff_eq,iA,if_true] at hg;have hkd:bC x.pte x.level=1:=hg.2;have hlv:=hg.1.1.1.1.1.2;have hlv2:=hg.1.1.1.1.2;rcases (show x.level=0∨x.level=1∨x.level=2 by omega) with h0 | h0 | h0
   ·rw [h0] at hkd;exact absurd hkd (iZ _)
   ·exact .inl h0
   ·exact .inr h0
 obtain ⟨R,hR⟩:∃R,aW zs satp va (f,i,l,pt)=R:=⟨_,rfl⟩;have HRs:Hid (aW zs satp va (f,i,l,pt)=R):=hR;rw [hX,hR];clear hX hS hB hR;have n1:=(Below.refl w.heap.size w).alloc (Nat.le_refl _) (Obj.cells #[.int .i64 0,.int .u64 0,.slice none 0 0] 179);have H1:Hid ((w.alloc (Obj.cells #[.int .i64 0,.int .u64 0,.slice none 0 0] 179)).heap[w.heap.size]?=some (.cells #[.int .i64 0,.int .u64 0,.slice none 0 0] 179 (0,0))):=heap_alloc_new w _;have l1:w.heap.size<(w.alloc (Obj.cells #[.int .i64 0,.int .u64 0,.slice none 0 0] 179)).heap.size:=by simp
 go_enter Tryz.func135,Tryz.ntmps135;go_wp2_with fail;generalize w.alloc (Obj.cells #[.int .i64 0,.int .u64 0,.slice none 0 0] 179)=v1 at n1 H1 l1 ⊢;have HF:Hid (∀u:Lies v1,Calls Tryz.prog 111 #[.pointer (some ⟨b,6,none⟩),.int .u64 va,.int .u64 (ay satp)] u.w fun e w'=>e=.returned (.tuple #[.int .i64 i,.bool f])∧Below u.w.heap.size u.w w'):=fun u=>by
  have S:=HS.out.keep (Below.step n1 u.h (Nat.le_refl _));obtain ⟨c0,c1,c2⟩:=S.cellP;have:=jY.2 b 6 gp k.p.es.length k.p va (ay satp) u.w rfl hkl hk S.lt c0 c1 c2 (en S.2.1.2.2.1) hv0 hv1;rw [HX.out] at this;exact this
 have HA:Hid (∀u:Lies v1,Calls Tryz.prog 104 #[.int .u64 satp] u.w fun e w'=>e=.returned (.int .u64 (ay satp))∧w'=u.w):=fun u=>mA satp u.w hr0 hr1;generalize ay satp=asd at HF HA;have ne:=ej v1;refine bL (by kernel_rfl) (by kernel_rfl) ?_;repeat (go_big_quiet_step ((first
  | (go_at_call 104;exact jI _ (HA.out _))
  | (go_at_call 111;exact cG _ (HF.out _)))))
 refine wpQuiet_nil ?_;rintro _ ⟨u,rfl⟩;have n2:=u.h;generalize u.w=v2 at n2 ⊢;have H2:=ae H1 n2;have A2:=Below.step n1 n2 (Nat.le_refl _);have l2:w.heap.size<v2.heap.size:=Nat.lt_of_lt_of_le l1 n2.size;clear n1 n2 H1 ne HF HA;obtain ⟨⟨d0,d1,d2⟩,e0,e1,e2⟩:=ao H2.out;cases f
 ·have hres:R=bV zs satp va:=by rw [←HRs.out];simp [aW]
  go_wp2_with fail;refine (iI sv zs va satp v2 (HB.out.keep A2) hv0 hv1 hr0 hr1).mono ?_;rw [←hres];rintro e v3 ⟨hw,n3⟩;have H3:=ae H2 n3;have A3:=Below.step A2 n3 (Nat.le_refl _);obtain ⟨ra,rc,rfl,o3⟩:=hw;clear d0 d1 d2 e0 e1 e2 hres HRs;obtain ⟨⟨d0,d1,d2⟩,e0,e1,e2⟩:=ao H3.out;go_wp2_with fail;exact bodyPost_ret (v:=.tuple #[.agg #[.int .i64 R.2.1,.int .u64 R.2.2.1,.slice ra R.2.2.2.length rc],cX R.1]) (by simp [results,Tryz.results135,go_sem,d0,d1,d2]) rfl ⟨⟨ra,rc,rfl,aT (bZ o3 (gb3 v3 w.heap.size _ _ _) l2) (by omega)⟩,eg A3 (Nat.le_refl _) _ _ _⟩
 ·obtain ⟨q,x,hx,rfl,rfl,rfl,hlv⟩:=HGet.out (by trivial);have hok:=hko x (List.mem_of_getElem? hx);have hql:q<k.p.es.length:=(List.getElem?_eq_some_iff.1 hx).1;have S2:=HS.out.keep A2;obtain ⟨_,_,p2⟩:=S2.cellP;have p2':v2.cell? ⟨b,8,none⟩=some (.slice (some ⟨gp,0,none⟩) k.p.es.length k.p.es.length):=p2;clear p2;have CE:∀j u,j<6→(fj x)[j]?=some u→v2.cell? ⟨gp,q*6+j,none⟩=some u:=fun j u hj hu=>fR (en S2.2.1.2.2.1) rfl q _ hx j u hj hu;have g0:v2.cell? ⟨gp,q*6,none⟩=some (.int .i64 x.level):=CE 0 _ (by omega) rfl;have g1:v2.cell? ⟨gp,q*6+1,none⟩=some (.int .u64 x.tag):=CE 1 _ (by omega) rfl;have g2:v2.cell? ⟨gp,q*6+2,none⟩=some (.int .u64 x.asid):=CE 2 _ (by omega) rfl;have g3:v2.cell? ⟨gp,q*6+3,none⟩=some (.bool x.glob):=CE 3 _ (by omega) rfl;have g4:v2.cell? ⟨gp,q*6+4,none⟩=some (.bool x.valid):=CE 4 _ (by omega) rfl;have g5:v2.cell? ⟨gp,q*6+5,none⟩=some (.int .u64 x.pte):=CE 5 _ (by omega) rfl;obtain ⟨ll,hsub,hl1⟩:∃ll:Nat,x.level-1=(ll:Int)∧ll≤1:=by
   rcases hlv with h | h
   ·exact ⟨0,by rw [h];rfl,by omega⟩
   ·exact ⟨1,by rw [h];rfl,by omega⟩
  have hL1:1≤x.level:=by omega
  have hL2:x.level≤2:=by omega
  have hres:R=cN zs va ll (dK x.pte):=by
   rw [←HRs.out];simp only [aW,if_true];rw [hsub];simp
  have HRes:Hid (R=cN zs va ll (dK x.pte)):=hres;have hpb:=hok.2.2.2;have htb:Hid (∀u:World,Calls Tryz.prog 149 #[.int .u64 x.pte] u fun e w'=>e=.returned (.int .u64 (dK x.pte))∧w'=u):=fun u=>zR x.pte u hpb.1 hpb.2;have hpp:=oD x.pte;clear CE hres HRs HX HGet hlv S2 hx;generalize dK x.pte=pp at *;generalize x.level=L0 at *;generalize x.tag=tg at *;generalize x.asid=ad at *;generalize x.glob=gl at *;generalize x.valid=vv at *;generalize x.pte=pt at *;have n3:=(Below.refl v2.heap.size v2).alloc (Nat.le_refl _) (Obj.cells #[.int .i64 L0,.int .u64 tg,.int .u64 ad,.bool gl,.bool vv,.int .u64 pt] 183);have S3:Hid ((v2.alloc (Obj.cells #[.int .i64 L0,.int .u64 tg,.int .u64 ad,.bool gl,.bool vv,.int .u64 pt] 183)).heap[v2.heap.size]?=some (.cells #[.int .i64 L0,.int .u64 tg,.int .u64 ad,.bool gl,.bool vv,.int .u64 pt] 183 (0,0))):=heap_alloc_new v2 _;go_wp2_with fail;generalize v2.alloc (Obj.cells #[.int .i64 L0,.int .u64 tg,.int .u64 ad,.bool gl,.bool vv,.int .u64 pt] 183)=v3 at n3 S3 ⊢;have H3:=ae H2 n3;have A3:=Below.step A2 n3 (Nat.le_refl _);have l3:w.heap.size<v3.heap.size:=Nat.lt_of_lt_of_le l2 n3.size;clear g0 g1 g2 g3 g4 g5 p2' d0 d1 d2 e0 e1 e2 n3 H2 A2;obtain ⟨⟨g0,g1,g2,g3,g4,g5⟩,_⟩:=gH S3.out;have D3:Below v3.heap.size v3 v3.drew:=(Below.refl _ _).drew;have nev1:v2.heap.size≠w.heap.size:=by omega
  have nev2:w.heap.size≠v2.heap.size:=by omega
  have hwl:IntKind.i64.wrap (ll:Int)=(ll:Int):=(IntKind.wrap_i64 _).trans (by omega);clear g1 g2 g3 g4 hk hko hkl hb hok hql HS;clear l1 l2 hr0 hr1;go_region_held3 (fun w'=>w'.cell? ⟨v2.heap.size,0,none⟩=some (.int .i64 L0)∧w'.cell? ⟨v2.heap.size,5,none⟩=some (.int .u64 pt)) (go_keep)
   (first
   | (go_at_call 149;refine (htb.out _).mono ?_;rintro e w' ⟨rfl,rfl⟩)
   | (go_at_call 141;refine (oQ sv zs va pp ll v3.drew (HB.out.keep (Below.step A3 D3 (Nat.le_refl _))) (by omega) hv0 hv1 hpp.1 hpp.2).mono ?_;rw [←HRes.out];rintro e v4 ⟨hw,n4⟩;obtain ⟨ra,rc,rfl,o4⟩:=hw;have N4:=Below.step D3 n4 (Nat.le_refl _);have H4:=ae H3 N4;have S4:=ae S3 N4;have A4:=Below.step A3 N4 (Nat.le_refl _);have O4:Hid _:=o4;have kk:=ao H4.out;obtain ⟨⟨j0,j1,j2⟩,i0,i1,i2⟩:=kk;have kk2:=gH S4.out;obtain ⟨⟨t0,t1,t2,t3,t4,t5⟩,_⟩:=kk2;clear o4))
  all_goals
   go_wp2_with fail;exact bodyPost_ret (v:=.tuple #[.agg #[.int .i64 R.2.1,.int .u64 R.2.2.1,.slice ra R.2.2.2.length rc],cX R.1]) (by simp [results,Tryz.results135,go_sem,j0,j1,j2]) rfl ⟨⟨ra,rc,rfl,aT (bZ O4.out (gb3 v4 w.heap.size _ _ _) l3) (Nat.le_of_lt l3)⟩,eg A4 (Nat.le_refl _) _ _ _⟩
end Go.Proofs.YtaoaifmkhbgaiaaGreat

namespace Go.Proofs.YtaoaifmkhbgaiaaGreat
open Go.RowKit
set_option linter.unusedVariables false
theorem wi (pt lv va asd:Int) (w:World) (hl:lv=0∨lv=1∨lv=2) (hv0:0≤va) (hv1:va≤18446744073709551615) (h0:0≤pt) (h1:pt≤18446744073709551615):
 Calls Tryz.prog 150 #[.int .u64 pt,.int .i64 lv,.int .u64 va,.int .u64 asd] w fun e w'=>e=.returned (.agg #[.int .i64 lv,.int .u64 (dt va lv),.int .u64 asd,.bool (bK pt 32)])∧Below w.heap.size w w':=by
 obtain ⟨tm,htm⟩:∃tm,dt va lv=tm:=⟨_,rfl⟩;obtain ⟨g5,hg5⟩:∃g5,bK pt 32=g5:=⟨_,rfl⟩;have HT:Hid (∀w,Calls Tryz.prog 128 #[.int .u64 va,.int .i64 lv] w fun e w'=>e=.returned (.int .u64 tm)∧∃n,w'=w.drewN n):=fun w=>by
  have:=wT va lv w hv0 hv1 hl;rw [htm] at this;exact this
 have HB:Hid (∀w,Calls Tryz.prog 144 #[.int .u64 pt,.int .u64 32] w fun e w'=>e=.returned (.bool g5)∧w'=w):=fun w=>by
  have:=ee pt 32 w;rw [ep 5 pt 32 rfl (by omega) h0 h1,hg5] at this;exact this
 rw [htm,hg5];clear htm hg5;have n1:=(Below.refl w.heap.size w).alloc (Nat.le_refl _) (Obj.cells #[.int .i64 0,.int .u64 0,.int .u64 0,.bool false] 155);have H1:Hid ((w.alloc (Obj.cells #[.int .i64 0,.int .u64 0,.int .u64 0,.bool false] 155)).heap[w.heap.size]?=some (.cells #[.int .i64 0,.int .u64 0,.int .u64 0,.bool false] 155 (0,0))):=heap_alloc_new w _;go_enter Tryz.func150,Tryz.ntmps150;go_wp2_with fail;generalize w.alloc (Obj.cells #[.int .i64 0,.int .u64 0,.int .u64 0,.bool false] 155)=v1 at n1 H1 ⊢;refine (HT.out v1).mono ?_;rintro e v2 ⟨rfl,q,rfl⟩;have n2:Below w.heap.size w (v1.drewN q):=below_drewN n1 q;have H2:Hid ((v1.drewN q).heap[w.heap.size]?=some (.cells #[.int .i64 0,.int .u64 0,.int .u64 0,.bool false] 155 (0,0))):=H1;generalize v1.drewN q=v2 at n2 H2 ⊢;obtain ⟨⟨d0,d1,d2,d3⟩,e0,e1,e2,e3⟩:=aw H2.out;go_wp2_with (go_at_call 144;refine (HB.out _).mono ?_;rintro e w' ⟨rfl,rfl⟩);exact bodyPost_ret (v:=.agg #[.int .i64 lv,.int .u64 tm,.int .u64 asd,.bool g5]) (by simp [results,Tryz.results150,go_sem,d0,d1,d2,d3]) rfl ⟨rfl,iB n2 (Nat.le_refl _) _ _ _ _⟩
end Go.Proofs.YtaoaifmkhbgaiaaGreat

namespace Go.Proofs.YtaoaifmkhbgaiaaGreat
open Go.RowKit
set_option linter.unusedVariables false
def sk (z0:Nat) (z1:Nat):Prop:=∀(b o g n base:Nat) (t:TlbM) (pt lv va asd pick:Int) (w:World) (hn:t.es.length=n) (hn1:n≤1048576) (hs4:t.sets=1∨t.sets=2∨t.sets=4∨t.sets=8) (hw1:1≤t.ways) (hw4:t.ways≤4) (hnw:(n:Int)=t.sets*t.ways) (hbl:b<w.heap.size) (hbg:b≠g)
 (c0:w.cell? ⟨b,o,none⟩=some (.int .i64 t.sets)) (c1:w.cell? ⟨b,o+1,none⟩=some (.int .i64 t.ways)) (c2:w.cell? ⟨b,o+2,none⟩=some (.slice (some ⟨g,0,none⟩) n n)) (ho:w.ownsRow base z1 6 (.slice (some ⟨g,0,none⟩) n n) n (aH t.es))
 (hl:lv=0∨lv=1∨lv=2) (hv0:0≤va) (hv1:va≤18446744073709551615) (h0:0≤pt) (h1:pt≤18446744073709551615) (hp0:0≤pick) (hp1:pick≤255),Calls Tryz.prog z0 #[.pointer (some ⟨b,o,none⟩),.int .u64 pt,.int .i64 lv,.int .u64 va,.int .u64 asd,.int .i64 pick] w fun x w'=>x=.returned (.tuple #[])∧
  w'.ownsRow base z1 6 (.slice (some ⟨g,0,none⟩) n n) n (aH (t.es.set (dL t ⟨true,lv,dt va lv,asd,bK pt 32,pt⟩+fU t ⟨true,lv,dt va lv,asd,bK pt 32,pt⟩ pick) ⟨true,lv,dt va lv,asd,bK pt 32,pt⟩))∧w.grownBy w' (some g)
set_option maxHeartbeats 1600000 in
theorem qa:sk 138 173∧sk 137 183:=by
 refine ⟨?_,?_⟩;have mL:Hid True:=trivial
 rotate_left
 have mP:Hid True:=trivial
 rotate_left
 all_goals
  intro b o g n base t pt lv va asd pick w hn hn1 hs4 hw1 hw4 hnw hbl hbg c0 c1 c2 ho hl hv0 hv1 h0 h1 hp0 hp1;have hgl:=(bI ho).2.2;simp only at hgl;first
   | (replace mL:=mL;have HO:Hid (w.ownsRow base 173 6 (.slice (some ⟨g,0,none⟩) n n) n (aH t.es)):=ho)
   | (replace mP:=mP;have HO:Hid (w.ownsRow base 183 6 (.slice (some ⟨g,0,none⟩) n n) n (aH t.es)):=ho)
  have htb:=rV va lv hl;have HR:Hid (∀w,Calls Tryz.prog 150 #[.int .u64 pt,.int .i64 lv,.int .u64 va,.int .u64 asd] w fun e w'=>e=.returned (.agg #[.int .i64 lv,.int .u64 (dt va lv),.int .u64 asd,.bool (bK pt 32)])∧Below w.heap.size w w'):=fun w=>wi pt lv va asd w hl hv0 hv1 h0 h1;generalize dt va lv=tm at *;generalize bK pt 32=g5 at *;clear ho;first
   | (replace mL:=mL;go_enter Tryz.func138,Tryz.ntmps138)
   | (replace mP:=mP;go_enter Tryz.func137,Tryz.ntmps137)
  go_wp2_with fail;refine (HR.out w).mono ?_;rintro e v1 ⟨rfl,n1⟩;have n2:=n1.alloc n1.size (Obj.cells #[.int .i64 lv,.int .u64 tm,.int .u64 asd,.bool g5] 155);go_wp2_with fail;generalize v1.alloc (Obj.cells #[.int .i64 lv,.int .u64 tm,.int .u64 asd,.bool g5] 155)=v2 at n2 ⊢;first
   | (replace mL:=mL;refine (jy.1 b o g n base t ⟨true,lv,tm,asd,g5,pt⟩ pick v2 hn hn1 hs4 hw1 hw4 hnw (Nat.lt_of_lt_of_le hbl n2.size) hbg (Below.cell2 n2 c0 hbl) (Below.cell2 n2 c1 hbl) (Below.cell2 n2 c2 hbl) (aj HO.out n2) htb.1 (by simp only;omega) hp0 hp1).mono ?_)
   | (replace mP:=mP;refine (jy.2 b o g n base t ⟨true,lv,tm,asd,g5,pt⟩ pick v2 hn hn1 hs4 hw1 hw4 hnw (Nat.lt_of_lt_of_le hbl n2.size) hbg (Below.cell2 n2 c0 hbl) (Below.cell2 n2 c1 hbl) (Below.cell2 n2 c2 hbl) (aj HO.out n2) htb.1 (by simp only;omega) hp0 hp1).mono ?_)
  rintro e v3 ⟨rfl,o3,m3⟩;go_wp2_with fail;go_end0;exact ⟨rfl,o3,fs (tr n2) m3⟩
end Go.Proofs.YtaoaifmkhbgaiaaGreat
