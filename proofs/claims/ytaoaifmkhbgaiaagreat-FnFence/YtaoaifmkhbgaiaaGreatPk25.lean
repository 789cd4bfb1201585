import Derived.Test.YtaoaifmkhbgaiaaGreatPk04
import Derived.Deep.CutRange
import Derived.Test.YtaoaifmkhbgaiaaGreatPk16
import Derived.Test.YtaoaifmkhbgaiaaGreatPk18
import Derived.Test.YtaoaifmkhbgaiaaGreatPk19
import Derived.Test.YtaoaifmkhbgaiaaGreatPk05
import Derived.Test.YtaoaifmkhbgaiaaGreatPk03
import Derived.Deep.AppendLies
import Derived.Test.YtaoaifmkhbgaiaaGreatPk11
import Derived.Test.YtaoaifmkhbgaiaaGreatPk14
namespace Go.Proofs.YtaoaifmkhbgaiaaGreat
set_option linter.unusedVariables false
theorem tx (zs:List Int) (va:Int):∀(l:Nat) (n:Int),0≤n→(cN zs va l n).2.2.2.length≤l+1∧∀r∈(cN zs va l n).2.2.2,(0≤r.1∧r.1≤l)∧0≤r.2.1∧r.2.1+8≤zs.length
 | l,n,hn=>by
  have hi:=oA va l;rw [cN.eq_def];dsimp only;by_cases hg:dM zs.length (64*n+8*dA va l) 8=false
  ·rw [if_pos hg];exact ⟨by simp,fun r hr=>by simp at hr⟩
  rw [if_neg hg];have hg':dM zs.length (64*n+8*dA va l) 8=true:=by simpa using hg
  simp only [dM,decide_eq_true_eq] at hg';have h1:(0≤(l:Int)∧(l:Int)≤l)∧0≤64*n+8*dA va l∧64*n+8*dA va l+8≤zs.length:=by omega
  by_cases h0:bC (rdV zs (64*n+8*dA va l) 8) l=0
  ·rw [if_pos h0];exact ⟨by simp,fun r hr=>by simp at hr⟩
  rw [if_neg h0];by_cases h2:bC (rdV zs (64*n+8*dA va l) 8) l=2
  ·rw [if_pos h2];refine ⟨by simp,fun r hr=>?_⟩;simp only [List.mem_singleton] at hr;subst hr;exact h1
  rw [if_neg h2]
  match l with
  | 0=>exact ⟨by simp,fun r hr=>by simp at hr⟩
  | k+1=>
   have ih:=tx zs va k (dK (rdV zs (64*n+8*dA va ((k+1:Nat):Int)) 8)) (oD _).1;refine ⟨by simp only [List.length_cons];omega,fun r hr=>?_⟩;simp only [List.mem_cons] at hr;rcases hr with rfl | hr
   ·exact h1
   ·have:=ih.2 r hr;omega
theorem yC (zs:List Int) (root va:Int):(bV zs root va).2.2.2.length≤3∧∀r∈(bV zs root va).2.2.2,(0≤r.1∧r.1≤2)∧0≤r.2.1∧r.2.1+8≤zs.length:=by
 unfold bV;split
 ·exact ⟨by simp,fun r hr=>by simp at hr⟩
 ·have:=tx zs va 2 (root%17592186044416) (Int.emod_nonneg _ (by omega));exact ⟨by omega,fun r hr=>by have:=this.2 r hr;omega⟩
end Go.Proofs.YtaoaifmkhbgaiaaGreat

namespace Go.Proofs.YtaoaifmkhbgaiaaGreat
open Go.RowKit
set_option linter.unusedVariables false
attribute [local go_sem ↓] Go.wp_at_zero Go.wp_at_succ
theorem AN:(Tryz.prog.info? 85).map (·.size)=some 4:=by kernel_rfl
theorem zo (x y z:Int) (a:Option Addr) (n c:Nat):(#[.int .i64 x,.int .i64 y,.int .u64 z,.slice a n c]:Array Value).all (·.oneCell')=true:=by simp [Value.oneCell']
structure StS (w:World) (p:Nat) (f:Nat→Int) (k:Nat) (wr:World) (b10 g len cp:Nat) (zs:List Int) (r1 r2 r3:Int) (ra:Option Addr) (rc m:Nat) (rs:List ef):Prop where
 d:DrewN w p f k wr
 h10:wr.heap[b10]?=some (.cells #[.int .i64 r1,.int .i64 r2,.int .u64 r3,.slice ra m rc] 85 (0,0))
 o:OwnB 5 wr w.heap.size g len cp zs
 row:RowC wr ra m 3 (cD rs)
 rn:∀q,ra=some q→q.block≠p
 l10:w.heap.size≤b10
theorem StS.draw {w wr v:World} {p:Nat} {f:Nat→Int} {k k' b10 g len cp:Nat} {zs:List Int} {r1 r2 r3:Int} {ra:Option Addr} {rc m:Nat} {rs:List ef} (s:StS w p f k wr b10 g len cp zs r1 r2 r3 ra rc m rs) (hp:p<w.heap.size) (d:DrewN wr p f k' v):StS w p f k' v b10 g len cp zs r1 r2 r3 ra rc m rs:=
 ⟨s.d.trans d,av s.h10 d.2 (by have:=s.l10;omega),s.o.gb d.2 (by have:=s.o.facts.2.1;omega),RowC.gb' s.row d.2 s.rn,s.rn,s.l10⟩
theorem StS.out {w wr:World} {p:Nat} {f:Nat→Int} {k b10 g len cp:Nat} {zs:List Int} {r1 r2 r3:Int} {ra:Option Addr} {rc m:Nat} {rs:List ef} (s:StS w p f k wr b10 g len cp zs r1 r2 r3 ra rc m rs) (hp:p<w.heap.size) (hl:len≤1048576) (hz:∀i:Nat,0≤zs[i]?.getD 0∧zs[i]?.getD 0≤255):BytN wr p (some ⟨g,0,none⟩) len cp zs:=
 ⟨s.o.byt hz,fun q hq=>by cases hq;exact ⟨by have:=s.o.facts.2.1;show g≠p;omega,s.o.facts.2.2.1⟩,hl,s.o.facts.2.2.2.1,by have:=s.o.facts.2.2.2.2;unfold maxLen at this;omega⟩
theorem AO {zs ys:List Int} {k j:Nat} (h:∀i:Nat,0≤zs[i]?.getD 0∧zs[i]?.getD 0≤255) (h':∀i:Nat,0≤ys[i]?.getD 0∧ys[i]?.getD 0≤255):∀i:Nat,0≤(zs.take k++ys++zs.drop j)[i]?.getD 0∧(zs.take k++ys++zs.drop j)[i]?.getD 0≤255:=dv fun y hy=>by
 rcases List.mem_append.1 hy with hy | hy
 ·rcases List.mem_append.1 hy with hy | hy
  ·exact ed h y (List.mem_of_mem_take hy)
  ·exact ed h' y hy
 ·exact ed h y (List.mem_of_mem_drop hy)
set_option maxRecDepth 20000 in
set_option maxHeartbeats 6400000 in
theorem yn (p:Nat) (f:Nat→Int) (k:Nat) (a:Option Addr) (len cap:Nat) (zs:List Int) (satp va:Int) (w:World) (hc:CurN w p f k) (hb:BytN w p a len cap zs) (hl1:1≤len) (hs:0≤satp∧satp≤18446744073709551615) (hv:0≤va∧va≤18446744073709551615):
 Calls Tryz.prog 37 #[.pointer (some ⟨p,0,none⟩),.slice a len cap,.int .u64 satp,.int .u64 va] w fun e w'=>∃(g c:Nat) (zs':List Int) (k':Nat),e=.returned (.slice (some ⟨g,0,none⟩) len c)∧BytN w' p (some ⟨g,0,none⟩) len c zs'∧w.heap.size≤g∧DrewN w p f k' w':=by
 have hp:=hc.lt;have HZ:Hid (∀i:Nat,0≤zs[i]?.getD 0∧zs[i]?.getD 0≤255):=hb.b.2.1;have hzl:zs.length=len:=hb.b.1;obtain ⟨b,off,rfl,hbw⟩:∃b off,a=some ⟨b,off,none⟩∧b<w.heap.size:=by
  rcases hb.b.2.2 with h | ⟨b,off,h,h2,_⟩
  ·omega
  ·exact ⟨b,off,h,h2⟩
 have hbl:=hb.l;have CW:Hid (∀u,Below w.heap.size w u→Calls Tryz.prog 43 #[.slice (some ⟨b,off,none⟩) len cap,.int .u64 satp,.int .u64 va] u fun e w'=>kw u.heap.size w' e (bV zs satp va)∧Below u.heap.size u w'):=fun u hu=>kL _ len cap zs satp va u hb.l hb.c.1 hb.c.2 hs.1 hs.2 hv.1 hv.2 (hb.b.keep hu);have HR:Hid ((bV zs satp va).2.2.2.length≤3∧∀r∈(bV zs satp va).2.2.2,(0≤r.1∧r.1≤2)∧0≤r.2.1∧r.2.1+8≤zs.length):=yC zs satp va;obtain ⟨⟨r1,r2,r3,rs⟩,hWR⟩:∃R,bV zs satp va=R:=⟨_,rfl⟩;rw [hWR] at CW HR;clear hWR;have HB:Hid (Byt w (some ⟨b,off,none⟩) len zs):=hb.b;have o1:OwnB 5 (w.alloc (Obj.cells #[] 5)) w.heap.size w.heap.size 0 0 []:=OwnB.new 5 w [] 0 rfl (by decide);have n1:Below w.heap.size w (w.alloc (Obj.cells #[] 5)):=(Below.refl _ _).alloc (Nat.le_refl _) _;have y1:=HB.out.keep n1;clear hb;go_enter Tryz.func37,Tryz.ntmps37;go_upto_region 2 with (at_builtin;refine eJ _ rfl _ _ 22 rfl 5 Tryz.underlying22 Tryz.infoB w.heap.size _ _ _ _ rfl o1 b off len cap zs rfl y1 (by omega) w.heap.size w n1 (Nat.le_refl _) ?_;intro g cp v2 o2 n2);clear o1 n1 y1;rw [List.nil_append] at o2;have O2:Hid (OwnB 5 v2 w.heap.size g len cp zs):=by
  have:0+len=len:=by omega
  rw [this] at o2;exact o2
 clear o2;go_wp2_with fail;refine (CW.out v2 n2).mono ?_;rintro e v3 ⟨⟨ra,rc,rfl,row,ra0,ran,rcl⟩,n3⟩;simp only at row ra0 rcl HR ⊢;obtain ⟨m,hm⟩:∃m,rs.length=m:=⟨_,rfl⟩;have HM:Hid _:=hm;rw [hm] at row ra0 rcl HR ⊢;clear hm;have hm3:m≤3:=HR.out.1;obtain ⟨v4,hs4,P4,l4,n4⟩:=dI v3 #[.int .i64 0,.int .i64 0,.int .u64 0,.slice none 0 0] #[.int .i64 r1,.int .i64 r2,.int .u64 r3,.slice ra m rc] 85 AN rfl (zo _ _ _ _ _ _);have HS4:Hid _:=hs4;have S:StS w p f k v4 v3.heap.size g len cp zs r1 r2 r3 ra rc m rs:=⟨(DrewN.refl hc).below (Below.step (Below.step n2 n3 (Nat.le_refl _)) n4 (Nat.le_refl _)) hp,P4,(OwnB.keep O2.out n3 O2.out.facts.2.2.1).keep n4 (Nat.lt_of_lt_of_le O2.out.facts.2.2.1 n3.size),row.keep n4,fun q hq=>by have:=(ran q hq).2;have:=n2.size;omega,by have:=n2.size;have:=n3.size;omega⟩;clear hs4 P4 n4 n3 n2 O2 row ran ra0 CW;go_upto_region 3 with (first | ((with_reducible refine au ?_ ?_ HS4.out ?_);(exact rfl);(exact rfl)));simp only [Act.put];clear HS4;generalize v3.heap.size=b10 at S l4 ⊢;have c3:=ag S.h10 3 (v:=.slice ra m rc) rfl;go_cut [29] from 22 to 28 (fun s29 wx=>∃(bb:Bool) (k':Nat),s29=.bool bb∧(bb=false→1≤m)∧StS w p f k' wx b10 g len cp zs r1 r2 r3 ra rc m rs)
 case first=>
  by_cases hm0:m=0
  ·subst hm0;go_wp2_with fail;go_meet
   case rel=>exact ⟨_,_,rfl,(fun h=>by cases h),S⟩
  ·have hm0':((m:Int) == 0)=false:=by simp;omega
   go_wp2_with fail;refine (dp p f k 3 _ S.d.1 (by omega) (by omega)).mono ?_;rintro e v5 ⟨o,k5, -,rfl,d5⟩;replace S:=S.draw hp d5;go_wp2_with fail;go_meet
   case rel=>exact ⟨_,_,rfl,(fun _=>by omega),S⟩
 case rest=>
 clear S c3;obtain ⟨bb,k5,rfl,hm1,S⟩:=hcut;cases bb
 ·as_aux_lemma=>
   replace hm1:=hm1 rfl;have c3:=ag S.h10 3 (v:=.slice ra m rc) rfl;go_wp2_with fail;refine (dp p f k5 3 _ S.d.1 (by omega) (by omega)).mono ?_;rintro e v6 ⟨o6,k6, -,rfl,d6⟩;replace S:=S.draw hp d6;clear d6 c3;have c3:=ag S.h10 3 (v:=.slice ra m rc) rfl;go_upto_if 36 with fail;go_cut [11] from 37 to 41 (fun s11 wx=>∃(iy k':Nat),s11=.int .i64 iy∧iy<m∧StS w p f k' wx b10 g len cp zs r1 r2 r3 ra rc m rs)
   case first=>
    cases o6
    ·go_wp2_with fail;go_meet
     case rel=>exact ⟨m-1,_,by rw [show ((m-1:Nat):Int)=(m:Int)-1 by omega],by omega,S⟩
    ·go_wp2_with fail;refine (aX p f k6 m _ S.d.1 (by omega) (by omega)).mono ?_;rintro e v7 ⟨y,k7, -,hy,rfl,d7⟩;replace S:=S.draw hp d7;obtain ⟨iy,rfl⟩:∃iy:Nat,y=iy:=⟨y.toNat,by omega⟩;go_wp2_with fail;go_meet
     case rel=>exact ⟨iy,_,rfl,by omega,S⟩
   case rest=>
   clear S c3;obtain ⟨iy,k7,rfl,hiy,S⟩:=hcut;go_wp2_with fail;refine (aX p f k7 8 _ S.d.1 (by omega) (by omega)).mono ?_;rintro e v8 ⟨pg,k8, -,hpg,rfl,d8⟩;replace S:=S.draw hp d8;clear d8;go_wp2_with fail;refine (dp p f k8 2 _ S.d.1 (by omega) (by omega)).mono ?_;rintro e v9 ⟨user,k9, -,rfl,d9⟩;replace S:=S.draw hp d9;clear d9;go_wp2_with fail;refine (iQ p f k9 user _ S.d.1).mono ?_;rintro e v10 ⟨fl,k10, -,hfl,rfl,d10⟩;replace S:=S.draw hp d10;clear d10;obtain ⟨x,hx⟩:∃x,rs[iy]?=some x:=⟨_,List.getElem?_eq_getElem (by rw [HM.out];omega)⟩;have hxb:=HR.out.2 x (List.mem_of_getElem? hx);obtain ⟨bR,oR,rfl,lR⟩:∃bR oR,ra=some ⟨bR,oR,none⟩∧bR<v10.heap.size:=by
    rcases S.row.2 with h | ⟨bR,oR,h,h2,_⟩
    ·omega
    ·exact ⟨bR,oR,h,h2⟩
   obtain ⟨x1,x2,x3⟩:=x;simp only at hxb;have HRC:Hid (∀u:World,Below v10.heap.size v10 u→u.cell? ⟨bR,oR+iy*3,none⟩=some (.int .i64 x1)∧u.cell? ⟨bR,oR+iy*3+1,none⟩=some (.int .u64 x2)):=fun u hu=>⟨Below.cell2 hu (mg S.row HM.out iy _ hx 0 _ (by omega) rfl) lR,Below.cell2 hu (mg S.row HM.out iy _ hx 1 _ (by omega) rfl) lR⟩;obtain ⟨q0,q1⟩:=HRC.out v10 (Below.refl _ _);have c3:=ag S.h10 3 (v:=.slice (some ⟨bR,oR,none⟩) m rc) rfl;have HXI:Hid _:=hx;clear hx HRC;obtain ⟨xx,hxx⟩:∃z:Int,(8+pg)*1024+fl=z:=⟨_,rfl⟩;have bxx:0≤xx∧xx≤100000:=by omega
   go_upto_if 60 with fail;first
    | generalize hbl:decide (0<x1)=bl
    | generalize hbl:decide (x1>0)=bl
   clear hbl;go_cut [14] from 61 to 66 (fun s14 wx=>∃z:Int,s14=.int .u64 z∧(0≤z∧z≤100000)∧wx=v10)
   case first=>
    cases bl
    ·go_wp2_with fail;go_meet
     case rel=>exact ⟨_,rfl,by omega,rfl⟩
    ·have hr3:0≤(8+pg)%3∧(8+pg)%3<3:=by omega
     have hr4:Int.tmod (8+pg) 3=(8+pg)%3:=Int.tmod_eq_emod_of_nonneg (by omega);go_wp2_with fail;go_meet
     case rel=>exact ⟨_,rfl,by omega,rfl⟩
   case rest=>
   obtain ⟨z,rfl,bz,rfl⟩:=hcut;rename World=>wz;clear q0 q1 c3;go_wp2_with fail;refine (dp p f k10 5 _ S.d.1 (by omega) (by omega)).mono ?_;rintro e v11 ⟨o11,k11, -,rfl,d11⟩;replace S:=S.draw hp d11;have s11:=d11.2.size;clear d11;go_upto_if 68 with fail;go_cut [14] from 69 to 69 (fun s14 wx=>∃z:Int,s14=.int .u64 z∧(0≤z∧z≤100000)∧wx=v11)
   case first=>
    cases o11
    ·go_wp2_with fail;go_meet
     case rel=>exact ⟨_,rfl,by omega,rfl⟩
    ·go_wp2_with fail;go_meet
     case rel=>exact ⟨_,rfl,by omega,rfl⟩
   case rest=>
   clear bz;obtain ⟨z,rfl,bz,rfl⟩:=hcut;rename World=>wy;go_upto_region 15 with fail;obtain ⟨ad,rfl⟩:∃ad:Nat,x2=ad:=⟨x2.toNat,by omega⟩;have lR2:bR<wy.heap.size:=by omega
   have l10:b10<wy.heap.size:=(Array.getElem?_eq_some_iff.1 S.h10).1;have HC1:Hid (∀u:World,Below wy.heap.size wy u→u.cell? ⟨bR,oR+iy*3+1,none⟩=some (.int .u64 ad)):=fun u hu=>Below.cell2 hu (mg S.row HM.out iy _ HXI.out 1 _ (by omega) rfl) lR2;have HC2:Hid (∀u:World,Below wy.heap.size wy u→u.cell? ⟨b10,3,none⟩=some (.slice (some ⟨bR,oR,none⟩) m rc)):=fun u hu=>Below.cell2 hu (ag S.h10 3 rfl) l10;have HL1:Hid (∀u:World,Below wy.heap.size wy u→(Instr.loadAt 23 (.pointer (some ⟨bR,oR+iy*3+1,none⟩))).run Tryz.prog u=.ok (.int .u64 ad) u):=fun u hu=>by
    have h1:=HC1.out u hu;go_simp
   have HL2:Hid (∀u:World,Below wy.heap.size wy u→(Instr.loadAt 83 (.pointer (some ⟨b10,3,none⟩))).run Tryz.prog u=.ok (.slice (some ⟨bR,oR,none⟩) m rc) u):=fun u hu=>by
    have h1:=HC2.out u hu;go_simp
   have HBy:Hid (∀u:World,Calls Tryz.prog 85 #[.int .u64 z,.int .i64 8] u fun e w'=>∃g cap,e=.returned (.slice (some ⟨g,0,none⟩) 8 cap)∧OwnB 5 w' u.heap.size g 8 cap (eA z 8)∧Below u.heap.size u w'):=fun u=>jw 8 z u (by omega) (by omega) (by omega);have HO:Hid (∀u:World,Below wy.heap.size wy u→OwnB 5 u w.heap.size g len cp zs):=fun u hu=>S.o.keep hu S.o.facts.2.2.1;have dz:=S.d;have fo:=S.o.facts;have hmx:cp≤9223372036854775807:=by have:=fo.2.2.2.2;unfold maxLen at this;omega
   clear S;have hF:Below wy.heap.size wy wy.drew:=(Below.refl _ _).drew;refine ba (fun u=>Below wy.heap.size wy u) 11 (by kernel_rfl) ?_;refine ah 0 69 (.slice (some ⟨g,0,none⟩) len cp) rfl (by kernel_rfl) (by kernel_rfl) (by kernel_rfl) (by kernel_rfl) rfl (by kernel_rfl) (fun _ _ _ h=>h) (by kernel_rfl) (fun u hu=>by kernel_rfl) hF (by kernel_rfl) ?_;simp only [Act.put,List.setIfInBounds_toArray,List.set_cons_succ,List.set_cons_zero];refine ah 1 70 (.pointer (some ⟨b10,3,none⟩)) rfl (by kernel_rfl) (by kernel_rfl) (by kernel_rfl) (by kernel_rfl) rfl (by kernel_rfl) (fun _ _ _ h=>h) (by kernel_rfl) (fun u hu=>by kernel_rfl) hF (by kernel_rfl) ?_;simp only [Act.put,List.setIfInBounds_toArray,List.set_cons_succ,List.set_cons_zero];refine ah 2 71 (.slice (some ⟨bR,oR,none⟩) m rc) rfl (by kernel_rfl) (by kernel_rfl) (by kernel_rfl) (by kernel_rfl) rfl (by kernel_rfl) (fun _ _ _ h=>h) (by kernel_rfl) (fun u hu=>aM rfl (HL2.out u hu)) hF (by kernel_rfl) ?_;simp only [Act.put,List.setIfInBounds_toArray,List.set_cons_succ,List.set_cons_zero];refine ah 3 72 (.int .i64 (iy:Int)) rfl (by kernel_rfl) (by kernel_rfl) (by kernel_rfl) (by kernel_rfl) rfl (by kernel_rfl) (fun _ _ _ h=>h) (by kernel_rfl) (fun u hu=>by kernel_rfl) hF (by kernel_rfl) ?_;simp only [Act.put,List.setIfInBounds_toArray,List.set_cons_succ,List.set_cons_zero];refine ah 4 73 (.pointer (some ⟨bR,oR+iy*3,none⟩)) rfl (by kernel_rfl) (by kernel_rfl) (by kernel_rfl) (by kernel_rfl) rfl (by kernel_rfl) (fun _ _ _ h=>h) (by kernel_rfl) (fun u hu=>by have h1:=hiy;go_simp) hF (by kernel_rfl) ?_;simp only [Act.put,List.setIfInBounds_toArray,List.set_cons_succ,List.set_cons_zero];refine ah 5 74 (.pointer (some ⟨bR,oR+iy*3+1,none⟩)) rfl (by kernel_rfl) (by kernel_rfl) (by kernel_rfl) (by kernel_rfl) rfl (by kernel_rfl) (fun _ _ _ h=>h) (by kernel_rfl) (fun u hu=>by kernel_rfl) hF (by kernel_rfl) ?_;simp only [Act.put,List.setIfInBounds_toArray,List.set_cons_succ,List.set_cons_zero];refine ah 6 75 (.int .u64 (ad:Int)) rfl (by kernel_rfl) (by kernel_rfl) (by kernel_rfl) (by kernel_rfl) rfl (by kernel_rfl) (fun _ _ _ h=>h) (by kernel_rfl) (fun u hu=>aM rfl (HL1.out u hu)) hF (by kernel_rfl) ?_;simp only [Act.put,List.setIfInBounds_toArray,List.set_cons_succ,List.set_cons_zero];refine ah 7 76 (.int .i64 (ad:Int)) rfl (by kernel_rfl) (by kernel_rfl) (by kernel_rfl) (by kernel_rfl) rfl (by kernel_rfl) (fun _ _ _ h=>h) (by kernel_rfl) (fun u hu=>by have h1:=hxb;go_simp;rw [IntKind.wrap_i64];omega) hF (by kernel_rfl) ?_;simp only [Act.put,List.setIfInBounds_toArray,List.set_cons_succ,List.set_cons_zero];refine ah 8 77 (.int .u64 z) rfl (by kernel_rfl) (by kernel_rfl) (by kernel_rfl) (by kernel_rfl) rfl (by kernel_rfl) (fun _ _ _ h=>h) (by kernel_rfl) (fun u hu=>by kernel_rfl) hF (by kernel_rfl) ?_;simp only [Act.put,List.setIfInBounds_toArray,List.set_cons_succ,List.set_cons_zero];refine be 9 78 (by kernel_rfl) rfl (by kernel_rfl) (by kernel_rfl) (f:=85) (args:=#[.int .u64 z,.int .i64 8]) (by kernel_rfl) ?_;refine (HBy.out wy.drew).mono ?_;rintro e vB ⟨gB,cB,rfl,oB,nB⟩;have fB:Below wy.heap.size wy vB:=Below.step hF nB (Nat.le_refl _);refine ⟨_,rfl,fun _=>fB,?_⟩;simp only [Act.put,List.setIfInBounds_toArray,List.set_cons_succ,List.set_cons_zero];refine be 10 79 (by kernel_rfl) rfl (by kernel_rfl) (by kernel_rfl) (f:=84) (args:=#[.slice (some ⟨g,0,none⟩) len cp,.int .i64 (ad:Int),.slice (some ⟨gB,0,none⟩) 8 cB]) (by kernel_rfl) ?_;have hBd:=dv (jq 8 z);refine (tw g 0 len cp ad gB 0 8 cB zs (eA z 8) vB ((HO.out vB fB).byt HZ.out) (oB.byt hBd) hbl (by omega) fo.2.2.2.1 hmx).mono ?_;rintro e vP ⟨gP,cP,rfl,oP,nP⟩;have fP:Below wy.heap.size wy vP:=Below.step fB nP (Nat.le_refl _);refine ⟨_,rfl,fun _=>fP,?_⟩;simp only [Act.put,List.setIfInBounds_toArray,List.set_cons_succ,List.set_cons_zero];refine ei 11 8 (.slice (some ⟨gP,0,none⟩) len cP) (w':=vP) (by kernel_rfl) rfl (by kernel_rfl) (by kernel_rfl) (by kernel_rfl) (fun _=>fP) ?_;simp only [Act.put,List.setIfInBounds_toArray,List.set_cons_succ,List.set_cons_zero];refine bQ (by kernel_rfl) ?_ _;have dF:=dz.below (fP.mono dz.2.size) hp;have fQ:=oP.facts;have sz:=dz.2.size;have sB:=fB.size;have bP:=AO (k:=ad) (j:=ad+8) HZ.out hBd;have hO:BytN vP p (some ⟨gP,0,none⟩) len cP _:=⟨oP.byt bP,fun q hq=>by cases hq;exact ⟨by show gP≠p;omega,fQ.2.2.1⟩,hbl,fQ.2.2.2.1,by have:=fQ.2.2.2.2;unfold maxLen at this;omega⟩;have HOb:Hid _:=hO;clear hO oP bP oB nB nP;go_wp2_with fail;go_ret;exact ⟨gP,cP,_,k11,rfl,HOb.out,by omega,dF⟩
 ·as_aux_lemma=>
   have hO:=S.out hp hbl HZ.out;have dd:=S.d;have hge:=S.o.facts.2.1;clear S;go_wp2_with fail;go_ret;exact ⟨g,cp,zs,k5,rfl,hO,hge,dd⟩
end Go.Proofs.YtaoaifmkhbgaiaaGreat

namespace Go.Proofs.YtaoaifmkhbgaiaaGreat
open Go.RowKit
set_option linter.unusedVariables false
structure OutS (w:World) (p:Nat) (f:Nat→Int) (k:Nat) (wr:World) (g n cp:Nat) (zs:List Int):Prop where
 d:DrewN w p f k wr
 o:OwnB 5 wr w.heap.size g n cp zs
 l:zs.length=n
 b:∀i:Nat,0≤zs[i]?.getD 0∧zs[i]?.getD 0≤255
theorem OutS.draw {w wr v:World} {p:Nat} {f:Nat→Int} {k k' g n cp:Nat} {zs:List Int} (s:OutS w p f k wr g n cp zs) (hp:p<w.heap.size) (d:DrewN wr p f k' v):OutS w p f k' v g n cp zs:=
 ⟨s.d.trans d,s.o.gb d.2 (by have:=s.o.facts.2.1;omega),s.l,s.b⟩
theorem OutS.below {w wr v:World} {p:Nat} {f:Nat→Int} {k g n cp:Nat} {zs:List Int} (s:OutS w p f k wr g n cp zs) (hp:p<w.heap.size) (m:Below wr.heap.size wr v):OutS w p f k v g n cp zs:=
 ⟨s.d.below (m.mono s.d.2.size) hp,s.o.keep m s.o.facts.2.2.1,s.l,s.b⟩
theorem OutS.app {w wr v:World} {p:Nat} {f:Nat→Int} {k g n cp g' cp' m:Nat} {zs ys:List Int} (s:OutS w p f k wr g n cp zs) (hp:p<w.heap.size) (hm:Below w.heap.size wr v) (o:OwnB 5 v w.heap.size g' (n+m) cp' (zs++ys)) (hy:ys.length=m) (hb:∀i:Nat,0≤ys[i]?.getD 0∧ys[i]?.getD 0≤255):OutS w p f k v g' (n+m) cp' (zs++ys):=
 ⟨s.d.below hm hp,o,by rw [List.length_append,hy,s.l],dv fun y hy=>by
  rcases List.mem_append.1 hy with h | h
  ·exact ed s.b y h
  ·exact ed hb y h⟩
theorem ux {op a b c imm:Int} (h1:0≤op∧op≤255) (h2:0≤a∧a≤7) (h3:0≤b∧b≤7) (h4:0≤c∧c≤255):∀i:Nat,0≤(wH op a b c imm)[i]?.getD 0∧(wH op a b c imm)[i]?.getD 0≤255:=
 dv fun y hy=>by
  have hm:=kc imm 255 (by omega) (by omega);simp only [wH,List.mem_cons,List.not_mem_nil,or_false] at hy;rcases hy with rfl | rfl | rfl | rfl <;> omega
def lenOf:Value→Nat
 | .slice _ n _=>n
 | _=>0
end Go.Proofs.YtaoaifmkhbgaiaaGreat

namespace Go.Proofs.YtaoaifmkhbgaiaaGreat
open Go.RowKit
set_option linter.unusedVariables false
theorem Tryz.infoSl:(Tryz.prog.info? 22).map (fun i=>(i.zero,i.size,i.bytes))=some (some (.slice none 0 0),1,24):=by kernel_rfl
def vr (wr:World) (base gO:Nat) (cells:List Value) (rs:List (List Int)):Prop:=
 cells.length=rs.length∧∀(i:Nat) (r:List Int),rs[i]?=some r→∃ge ce,cells[i]?=some (.slice (some ⟨ge,0,none⟩) r.length ce)∧OwnB 5 wr base ge r.length ce r∧ge≠gO∧(∀j:Nat,0≤r[j]?.getD 0∧r[j]?.getD 0≤255)∧r.length≤300∧1≤r.length
structure ScS (w:World) (p:Nat) (f:Nat→Int) (k:Nat) (wr:World) (g nn cp:Nat) (zs:List Int) (gR m cR:Nat) (rs:List (List Int)):Prop where
 s:OutS w p f k wr g nn cp zs
 c:∃cells,OwnC 22 1 wr w.heap.size gR m cR cells∧vr wr w.heap.size g cells rs
 l:rs.length=m
theorem ScS.draw {w wr v:World} {p:Nat} {f:Nat→Int} {k k' g nn cp:Nat} {zs:List Int} {gR m cR:Nat} {rs:List (List Int)} (s:ScS w p f k wr g nn cp zs gR m cR rs) (hp:p<w.heap.size) (d:DrewN wr p f k' v):ScS w p f k' v g nn cp zs gR m cR rs:=by
 obtain ⟨cells,o,hc,hr⟩:=s.c;refine ⟨s.s.draw hp d,⟨cells,o.gb d.2 (by have:=o.facts.2.1;omega),hc,fun i r hi=>?_⟩,s.l⟩;obtain ⟨ge,ce,h1,h2,h3⟩:=hr i r hi;exact ⟨ge,ce,h1,h2.gb d.2 (by have:=h2.facts.2.1;omega),h3⟩
theorem ScS.below {w wr v:World} {p:Nat} {f:Nat→Int} {k g nn cp:Nat} {zs:List Int} {gR m cR:Nat} {rs:List (List Int)} (s:ScS w p f k wr g nn cp zs gR m cR rs) (hp:p<w.heap.size) (n:Below wr.heap.size wr v):ScS w p f k v g nn cp zs gR m cR rs:=by
 obtain ⟨cells,o,hc,hr⟩:=s.c;refine ⟨s.s.below hp n,⟨cells,o.keep n o.facts.2.2.1,hc,fun i r hi=>?_⟩,s.l⟩;obtain ⟨ge,ce,h1,h2,h3⟩:=hr i r hi;exact ⟨ge,ce,h1,h2.keep n h2.facts.2.2.1,h3⟩
theorem oW {e e':TypeId} {s s' base base' g g' n n' c c':Nat} {w:World} {cs cs':List Value} (h:OwnC e s w base g n c cs) (h':OwnC e' s' w base' g' n' c' cs') (he:e≠e'):g≠g':=by
 rintro rfl;rcases h.2 with ⟨h1,_⟩ | ⟨x,cap,cur,h1,_,h2,_⟩
 ·simp at h1
 ·rcases h'.2 with ⟨h3,_⟩ | ⟨y,cap',cur',h3,_,h4,_⟩
  ·simp at h3
  ·simp at h1 h3;obtain ⟨rfl,_⟩:=h1;obtain ⟨rfl,_⟩:=h3;rw [h2] at h4;simp at h4;exact he h4.2
theorem ScS.add {w wr v:World} {p:Nat} {f:Nat→Int} {k g nn cp:Nat} {zs:List Int} {gR m cR gR' cR':Nat} {rs:List (List Int)} {cells:List Value} {ge ce:Nat} {r:List Int} (s:ScS w p f k wr g nn cp zs gR m cR rs) (hp:p<w.heap.size)
 (o:OwnC 22 1 wr w.heap.size gR m cR cells) (hc:vr wr w.heap.size g cells rs) (hg:wr.grownBy v (some gR)) (o':OwnC 22 1 v w.heap.size gR' (m+1) cR' (cells++[.slice (some ⟨ge,0,none⟩) r.length ce]))
 (oe:OwnB 5 wr w.heap.size ge r.length ce r) (hge:ge≠g) (hb:∀j:Nat,0≤r[j]?.getD 0∧r[j]?.getD 0≤255) (hl:r.length≤300) (hl1:1≤r.length):ScS w p f k v g nn cp zs gR' (m+1) cR' (rs++[r]):=by
 have n1:g≠gR:=oW s.s.o o (by decide);have n2:ge≠gR:=oW oe o (by decide);have hpR:p≠gR:=by have:=o.facts.2.1;omega
 have cur:CurN v p f k:=by
  obtain ⟨a,len,cap,code,h0,hf,hh,⟨b1,b2,b3⟩,hlt,hl⟩:=s.s.d.1;refine ⟨a,len,cap,code,h0,hf,by rw [hg.block p (Array.getElem?_eq_some_iff.1 hh).1 (by simpa using hpR)];exact hh,⟨b1,b2,?_⟩,hlt,hl⟩;by_cases h0:len=0
  ·exact .inl h0
  rcases b3 with b3 | ⟨b,off,rfl,hbw,hcc⟩
  ·exact .inl b3
  ·have hbp:b<p:=hlt (by omega) ⟨b,off,none⟩ rfl;refine .inr ⟨b,off,rfl,Nat.lt_of_lt_of_le hbw hg.size,fun j hj=>?_⟩;rw [←hcc j hj];unfold World.cell?;rw [hg.block b hbw (by have:=o.facts.2.1;simp;omega)]
 have gD:w.grownBy v (some p):=⟨hg.os.trans s.s.d.2.os,hg.tape.trans s.s.d.2.tape,hg.output.trans s.s.d.2.output,Nat.le_trans s.s.d.2.size hg.size,fun i hi hn=>(hg.block i (Nat.lt_of_lt_of_le hi s.s.d.2.size) (by have:=o.facts.2.1;simp;omega)).trans (s.s.d.2.block i hi hn)⟩;refine ⟨⟨⟨cur,gD⟩,s.s.o.gb hg n1,s.s.l,s.s.b⟩,⟨_,o',by simp [hc.1],fun i r' hi=>?_⟩,by simp [s.l]⟩;by_cases hlt:i<rs.length
 ·rw [List.getElem?_append_left hlt] at hi;obtain ⟨ge',ce',h1,h2,h3,h4⟩:=hc.2 i r' hi;exact ⟨ge',ce',by rw [List.getElem?_append_left (by rw [hc.1];exact hlt)];exact h1,h2.gb hg (oW h2 o (by decide)),h3,h4⟩
 ·have hi':i=rs.length:=by
   have:=(List.getElem?_eq_some_iff.1 hi).1;simp at this;omega
  subst hi';simp at hi;subst hi;refine ⟨ge,ce,by rw [←hc.1];simp,oe.gb hg n2,hge,hb,hl,hl1⟩
theorem yG {P:Program} (w:World) {ops:Array Oper} {rest:List Oper} {o:Oper} {a:Act} {Q:Exit→Act→World→Prop} (hgd:o.guard=none) (s x:Operand) (t:TypeId)
 (ho:o.op=.call { callee:=.builtin .append,args:=#[s,x],argTypes:=#[t,t] }) (e:TypeId) (ht:P.underlying t=some (.slice e))
 (hi:(P.info? e).map (fun i=>(i.zero,i.size,i.bytes))=some (some (.int .u8 0),1,1))
 (base g n cap:Nat) (zs:List Int) (hs:a.eval s=.slice (some ⟨g,0,none⟩) n cap) (hown:OwnB e w base g n cap zs)
 (b off m c:Nat) (ys:List Int) (hx:a.eval x=.slice (some ⟨b,off,none⟩) m c) (hm:0<m) (hy:Byt w (some ⟨b,off,none⟩) m ys) (hbd:n+m≤2147483648) (hbw:base≤w.heap.size)
 (h:∀g' cap' w',OwnB e w' base g' (n+m) cap' (zs++ys)→w.grownBy w' (some g)→(g'=g∨g'=w.heap.size)→wpList P ops Q rest (a.put o.dst (.slice (some ⟨g',0,none⟩) (n+m) cap')) w'):wpList P ops Q (o::rest) a w:=by
 obtain ⟨i0,hi,hz0,hz1,hz2⟩:=info_parts hi;refine wpList_append_lies w hgd s x t ho base e i0 (.int .u8 0) 1 1 ht hi hz0 hz1 hz2 rfl (by decide) _ n _ hs hown ⟨b,off,none⟩ m c (ys.map (Value.int .u8)) hx (by simp [hy.1]) (zE hy) (xj _) hm (by unfold maxLen;omega) (by omega) hbw w.heap.size rfl ?_;intro g' cap' w' h1 h2 h3 _;refine h g' cap' w' ?_ h2 ?_
 ·unfold OwnB;rw [List.map_append];exact h1
 ·rcases h3 with h3 | h3
  ·exact .inl (by simpa [Value.ownBlock] using h3.symm)
  ·exact .inr h3
theorem ScS.out {w wr v:World} {p:Nat} {f:Nat→Int} {k g nn cp g' cp' l:Nat} {zs ys:List Int} {gR m cR:Nat} {rs:List (List Int)} (s:ScS w p f k wr g nn cp zs gR m cR rs) (hp:p<w.heap.size)
 (hg:wr.grownBy v (some g)) (o':OwnB 5 v w.heap.size g' (nn+l) cp' (zs++ys)) (hw:g'=g∨g'=wr.heap.size) (hy:ys.length=l) (hb:∀j:Nat,0≤ys[j]?.getD 0∧ys[j]?.getD 0≤255):ScS w p f k v g' (nn+l) cp' (zs++ys) gR m cR rs:=by
 obtain ⟨cells,o,hc,hr⟩:=s.c;have hpg:p≠g:=by have:=s.s.o.facts.2.1;omega
 have cur:CurN v p f k:=by
  obtain ⟨a,len,cap,code,h0,hf,hh,⟨b1,b2,b3⟩,hlt,hl⟩:=s.s.d.1;refine ⟨a,len,cap,code,h0,hf,by rw [hg.block p (Array.getElem?_eq_some_iff.1 hh).1 (by simpa using hpg)];exact hh,⟨b1,b2,?_⟩,hlt,hl⟩;by_cases h0:len=0
  ·exact .inl h0
  rcases b3 with b3 | ⟨b,off,rfl,hbw,hcc⟩
  ·exact .inl b3
  ·have hbp:b<p:=hlt (by omega) ⟨b,off,none⟩ rfl;refine .inr ⟨b,off,rfl,Nat.lt_of_lt_of_le hbw hg.size,fun j hj=>?_⟩;rw [←hcc j hj];unfold World.cell?;rw [hg.block b hbw (by have:=s.s.o.facts.2.1;simp;omega)]
 have gD:w.grownBy v (some p):=⟨hg.os.trans s.s.d.2.os,hg.tape.trans s.s.d.2.tape,hg.output.trans s.s.d.2.output,Nat.le_trans s.s.d.2.size hg.size,fun i hi hn=>(hg.block i (Nat.lt_of_lt_of_le hi s.s.d.2.size) (by have:=s.s.o.facts.2.1;simp;omega)).trans (s.s.d.2.block i hi hn)⟩;refine ⟨⟨⟨cur,gD⟩,o',by rw [List.length_append,hy,s.s.l],dv fun y hy=>?_⟩,⟨cells,o.gb hg (oW o s.s.o (by decide)),hc,fun i r hi=>?_⟩,s.l⟩
 ·rcases List.mem_append.1 hy with hy | hy
  ·exact ed s.s.b y hy
  ·exact ed hb y hy
 ·obtain ⟨ge,ce,h1,h2,h3,h4⟩:=hr i r hi;refine ⟨ge,ce,h1,h2.gb hg h3,?_,h4⟩;rcases hw with rfl | rfl
  ·exact h3
  ·have:=h2.facts.2.2.1;omega
end Go.Proofs.YtaoaifmkhbgaiaaGreat

namespace Go.Proofs.YtaoaifmkhbgaiaaGreat
open Go.RowKit
set_option linter.unusedVariables false
theorem AQ {y z:Int} (h:0≤y∧y≤255) (h':0≤z∧z≤255):∀i:Nat,0≤[y,z][i]?.getD 0∧[y,z][i]?.getD 0≤255:=dv fun x hx=>by
 simp at hx;rcases hx with rfl | rfl
 ·exact h
 ·exact h'
theorem yE {w:World} {b off n m:Nat} {zs:List Int} (h:Byt w (some ⟨b,off,none⟩) n zs) (hm:m≤n):Byt w (some ⟨b,off,none⟩) m (zs.take m):=by
 obtain ⟨h1,h2,h3⟩:=h;refine ⟨by rw [List.length_take];omega,fun i=>?_,?_⟩
 ·by_cases hi:i<m
  ·rw [List.getElem?_take_of_lt hi];exact h2 i
  ·rw [List.getElem?_eq_none (by rw [List.length_take];omega)];simp
 ·rcases h3 with h3 | ⟨b',off',e,hlt,hc⟩
  ·exact .inl (by omega)
  ·refine .inr ⟨b',off',e,hlt,fun j hj=>?_⟩;rw [List.getElem?_take_of_lt hj];exact hc j (by omega)
theorem AR {xs ys:List Int} (h:∀j:Nat,0≤xs[j]?.getD 0∧xs[j]?.getD 0≤255) (h':∀j:Nat,0≤ys[j]?.getD 0∧ys[j]?.getD 0≤255):∀j:Nat,0≤(xs++ys)[j]?.getD 0∧(xs++ys)[j]?.getD 0≤255:=dv fun y hy=>by
 rcases List.mem_append.1 hy with hy | hy
 ·exact ed h y hy
 ·exact ed h' y hy
theorem tE (a:Int) (zs:List Int):(ow a zs).length=3+zs.length:=by simp [ow];omega
theorem vn {a:Int} {zs:List Int} (h0:0≤a) (h1:a≤65535) (hl:zs.length≤255) (hb:∀j:Nat,0≤zs[j]?.getD 0∧zs[j]?.getD 0≤255):∀j:Nat,0≤(ow a zs)[j]?.getD 0∧(ow a zs)[j]?.getD 0≤255:=dv fun y hy=>by
 simp only [ow,List.cons_append,List.nil_append,List.mem_cons] at hy;rcases hy with rfl | rfl | rfl | hy
 ·omega
 ·omega
 ·omega
 ·exact ed hb y hy
theorem zy (page index pte:Int):(yj page index pte).length=11:=by rw [yj,tE,rp]
theorem Ao {page index pte:Int} (h1:0≤page∧page≤63) (h2:0≤index∧index≤7) (h3:0≤pte∧pte≤18446744073709551615):∀j:Nat,0≤(yj page index pte)[j]?.getD 0∧(yj page index pte)[j]?.getD 0≤255:=vn (by omega) (by omega) (by rw [rp];omega) (dv (jq 8 pte))
theorem yF {P:Program} (w:World) {ops:Array Oper} {rest:List Oper} {o:Oper} {a:Act} {Q:Exit→Act→World→Prop} (hgd:o.guard=none) (s x:Operand) (t:TypeId)
 (ho:o.op=.call { callee:=.builtin .append,args:=#[s,x],argTypes:=#[t,t] }) (e:TypeId) (ht:P.underlying t=some (.slice e)) (z:Value) (size bytes:Nat)
 (hi:(P.info? e).map (fun i=>(i.zero,i.size,i.bytes))=some (some z,size,bytes)) (hzs:z.cells.size=size) (hsz:0<size)
 (base g n cap:Nat) (cs:List Value) (hs:a.eval s=.slice (some ⟨g,0,none⟩) n cap) (hown:OwnC e size w base g n cap cs)
 (b off m c:Nat) (ys:List Value) (hx:a.eval x=.slice (some ⟨b,off,none⟩) m c) (hm:0<m) (hy:RowC w (some ⟨b,off,none⟩) m size ys) (h1:∀u∈ys,u.oneCell'=true)
 (hbd:(n+m)*bytes≤140737488355328) (hbd':n+m≤9223372036854775807) (hbw:base≤w.heap.size)
 (h:∀g' cap' w',OwnC e size w' base g' (n+m) cap' (cs++ys)→w.grownBy w' (some g)→wpList P ops Q rest (a.put o.dst (.slice (some ⟨g',0,none⟩) (n+m) cap')) w'):wpList P ops Q (o::rest) a w:=
 wpList_plain hgd fun _ hK=>by
  obtain ⟨i0,hi,hz0,hz1,hz2⟩:=info_parts hi;refine wp_append_own w s x t ho base e i0 z size bytes ht hi hz0 hz1 hz2 hzs hsz _ n _ hs hown ⟨b,off,none⟩ m c ys hx hy.1 (qM hy) h1 (by unfold maxLen;omega) hbd (by omega) ?_;intro v' w' h1 h2 h3;rcases h1.2 with ⟨e1,e2⟩ | ⟨g,cap,cur,e1,r⟩
  ·omega
  ·subst e1;exact hK _ _ (h g cap w' h1 h2)
end Go.Proofs.YtaoaifmkhbgaiaaGreat
