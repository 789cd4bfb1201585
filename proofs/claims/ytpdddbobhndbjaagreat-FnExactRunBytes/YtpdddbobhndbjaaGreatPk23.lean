import Derived.Test.YtpdddbobhndbjaaGreatPk22
import Derived.Laws.CopyRow
namespace Go.Proofs.YtpdddbobhndbjaaGreat
open Go.RowKit
set_option linter.unusedVariables false
set_option maxHeartbeats 6400000
set_option maxRecDepth 20000
theorem vn (b:Nat) (kind:Int) (w:World):
 Calls Tryz.prog 162 #[.pointer (some ⟨b,20,none⟩),.int .i64 kind] w fun e w'=>e=.returned (.pointer (some ⟨b,if kind=0 then 20 else 23,none⟩))∧w'=w:=by
 by_cases h:kind=0
 ·subst h;go_enter Tryz.func162,Tryz.ntmps162;go_wp2_with fail;go_ret;exact ⟨rfl,rfl⟩
 ·rw [if_neg h];go_enter Tryz.func162,Tryz.ntmps162;go_wp2_with fail;go_ret;exact ⟨rfl,rfl⟩
theorem As (b base gi gd gp:Nat) (k:KM) (sv:Value) (zs:List Int) (satp va:Int) (w:World) (hS:SetM w b base gi gd gp k) (hk:aQ k.p true=true) (hko:∀e∈k.p.es,eU e) (hkl:k.p.es.length<=1048576)
 (hB:SrcAt w sv zs) (hv0:0<=va) (hv1:va<=18446744073709551615) (hr0:0<=satp) (hr1:satp<=18446744073709551615):
 Calls Tryz.prog 168 #[.pointer (some ⟨b,20,none⟩),sv,.int .u64 satp,.int .u64 va] w fun e w'=>xQ w.heap.size w' e (bj zs satp va (ba k.p va (aM satp)))∧Bw w w':=by
 have HS:=hid hS;have HB:=hid hB;have hb:=hS.lt;obtain ⟨⟨f,i,l,pt⟩,hX⟩:∃X,ba k.p va (aM satp)=X:=⟨_,rfl⟩;have HX:=hid hX;have HGet:Hid (f=true->∃(q:Nat) (x:EntM),k.p.es[q]?=some x∧i=(q:Int)∧l=x.level∧pt=x.pte∧(x.level=1∨x.level=2)):=fun hf=>by
  obtain ⟨q,x,h1,h2,h3,h4,_,h6⟩:=lX k.p va (aM satp) (by rw [hX];exact hf);rw [hX] at h2 h3 h4;refine ⟨q,x,h1,h2,h3,h4,?_⟩;have hp:=jP hk q x h1;simp only [cy,Bool.or_eq_true,Bool.and_eq_true,beq_iff_eq] at hp;rcases hp with hp | hp
  ·rw [h6] at hp;simp at hp
  ·have hg:=hp.1;simp only [aY,Bool.and_eq_true,decide_eq_true_eq,beq_iff_eq,iu,if_true] at hg;have hkd:=hg.2;have hlv:=hg.1.1.1.1.1.2;have hlv2:=hg.1.1.1.1.2;rcases (show x.level=0∨x.level=1∨x.level=2 by omega) with h0 | h0 | h0
   ·rw [h0] at hkd;exact absurd hkd (iT _)
   ·exact .inl h0
   ·exact .inr h0
 obtain ⟨R,hR⟩:∃R,bj zs satp va (f,i,l,pt)=R:=⟨_,rfl⟩;have HRs:=hid hR;rw [hX,hR];clear hX hS hB hR;obtain ⟨v1,Ev1,n1,H1,l1⟩:=al1 w #[.int .i64 0,.int .u64 0,.slice none 0 0] 276;go_enter Tryz.func168,Tryz.ntmps168;go_wp2_with fail;rw [Ev1.out];clear Ev1;have HF:Hid (∀u:Lies v1,Calls Tryz.prog 174 #[.pointer (some ⟨b,26,none⟩),.int .u64 va,.int .u64 (aM satp)] u.w fun e w'=>e=.returned (.tuple #[.int .i64 i,.bool f])∧Below u.w.heap.size u.w w'):=fun u=>by
  have S:=HS.out.keep (bst n1 u.h);obtain ⟨c0,c1,c2⟩:=S.cellP;have:=pF.2 b 26 gp k.p.es.length k.p va (aM satp) u.w rfl hkl hk S.lt c0 c1 c2 (ef S.2.1.2.2.1) hv0 hv1;rw [HX.out] at this;exact this
 have HA:=hid fun (u:Lies v1)=>lN satp u.w hr0 hr1;generalize aM satp=asd at HF HA;have ne:=db v1;refine bD (by kernel_rfl) (by kernel_rfl) ?_;repeat (go_big_quiet_step ((first
  | (go_at_call 164;exact jA _ (HA.out _))
  | (go_at_call 174;exact cH _ (HF.out _)))))
 refine wpQuiet_nil ?_;rintro _ ⟨u,rfl⟩;have n2:=u.h;generalize u.w=v2 at n2 |-;have H2:=ah H1 n2;have A2:=bst n1 n2;have l2:=Nat.lt_of_lt_of_le l1 n2.size;clear n1 n2 H1 ne HF HA;obtain ⟨⟨d0,d1,d2⟩,e0,e1,e2⟩:=aA H2.out;cases f
 ·have hres:R=dv zs satp va:=by rw [<-HRs.out];simp [bj]
  go_wp2_with fail;refine (iI sv zs va satp v2 (HB.out.keep A2) hv0 hv1 hr0 hr1).mono ?_;rw [<-hres];rintro e v3 ⟨hw,n3⟩;have H3:=ah H2 n3;have A3:=bst A2 n3;obtain ⟨ra,rc,rfl,o3⟩:=hw;clear d0 d1 d2 e0 e1 e2 hres HRs;obtain ⟨⟨d0,d1,d2⟩,e0,e1,e2⟩:=aA H3.out;go_wp2_with fail;exact bodyPost_ret (v:=.tuple #[.agg #[.int .i64 R.2.1,.int .u64 R.2.2.1,.slice ra R.2.2.2.length rc],cF R.1]) (by simp [results,Tryz.results168,go_sem,d0,d1,d2]) rfl ⟨⟨ra,rc,rfl,aP (aI o3 (gb3 v3 w.heap.size _ _ _) l2) (by omega)⟩,fU A3 nle _ _ _⟩
 ·obtain ⟨q,x,hx,rfl,rfl,rfl,hlv⟩:=HGet.out (by trivial);have hok:=hko x (List.mem_of_getElem? hx);have hql:=(List.getElem?_eq_some_iff.1 hx).1;have S2:=HS.out.keep A2;obtain ⟨_,_,p2⟩:=S2.cellP;have p2':=p2;clear p2;have CE:=fun j u (hj:j<6) (hu:(fz x)[j]?=some u)=>iM (ef S2.2.1.2.2.1) rfl q _ hx j u hj hu;have g0:v2.cell? ⟨gp,q*6,none⟩=some (.int .i64 x.level):=CE 0 _ (by omega) rfl;have g1:v2.cell? ⟨gp,q*6+1,none⟩=some (.int .u64 x.tag):=CE 1 _ (by omega) rfl;have g2:v2.cell? ⟨gp,q*6+2,none⟩=some (.int .u64 x.asid):=CE 2 _ (by omega) rfl;have g3:v2.cell? ⟨gp,q*6+3,none⟩=some (.bool x.glob):=CE 3 _ (by omega) rfl;have g4:v2.cell? ⟨gp,q*6+4,none⟩=some (.bool x.valid):=CE 4 _ (by omega) rfl;have g5:v2.cell? ⟨gp,q*6+5,none⟩=some (.int .u64 x.pte):=CE 5 _ (by omega) rfl;obtain ⟨ll,hsub,hl1⟩:∃ll:Nat,x.level-1=(ll:Int)∧ll<=1:=by
   rcases hlv with h | h
   ·exact ⟨0,by rw [h];rfl,by omega⟩
   ·exact ⟨1,by rw [h];rfl,by omega⟩
  have hL1:1<=x.level:=by omega
  have hL2:x.level<=2:=by omega
  have hres:R=cQ zs va ll (dG x.pte):=by
   rw [<-HRs.out];simp only [bj,if_true];rw [hsub];simp
  have HRes:Hid (R=cQ zs va ll (dG x.pte)):=hres;have hpb:=hok.2.2.2;have htb:Hid (∀u:World,Calls Tryz.prog 177 #[.int .u64 x.pte] u fun e w'=>e=.returned (.int .u64 (dG x.pte))∧w'=u):=fun u=>BC x.pte u hpb.1 hpb.2;have hpp:=qH x.pte;clear CE hres HRs HX HGet hlv S2 hx;generalize dG x.pte=pp at *;generalize x.level=L0 at *;generalize x.tag=tg at *;generalize x.asid=ad at *;generalize x.glob=gl at *;generalize x.valid=vv at *;generalize x.pte=pt at *;obtain ⟨v3,Ev3,n3,S3,_⟩:=al1 v2 #[.int .i64 L0,.int .u64 tg,.int .u64 ad,.bool gl,.bool vv,.int .u64 pt] 195;go_wp2_with fail;rw [Ev3.out];clear Ev3;have H3:=ah H2 n3;have A3:=bst A2 n3;have l3:w.heap.size<v3.heap.size:=Nat.lt_of_lt_of_le l2 n3.size;clear g0 g1 g2 g3 g4 g5 p2' d0 d1 d2 e0 e1 e2 n3 H2 A2;obtain ⟨⟨g0,g1,g2,g3,g4,g5⟩,_⟩:=iB S3.out;have D3:=bdr v3;have nev1:v2.heap.size≠w.heap.size:=by omega
  have nev2:w.heap.size≠v2.heap.size:=by omega
  have hwl:IntKind.i64.wrap (ll:Int)=(ll:Int):=(IntKind.wrap_i64 _).trans (by omega);clear g1 g2 g3 g4 hk hko hkl hb hok hql HS;clear l1 l2 hr0 hr1;go_region_held3 (fun w'=>w'.cell? ⟨v2.heap.size,0,none⟩=some (.int .i64 L0)∧w'.cell? ⟨v2.heap.size,5,none⟩=some (.int .u64 pt)) (go_keep)
   (first
   | (go_at_call 177;refine (htb.out _).mono ?_;rintro e w' ⟨rfl,rfl⟩)
   | (go_at_call 176;refine (nY sv zs va pp ll v3.drew (HB.out.keep (bst A3 D3)) (by omega) hv0 hv1 hpp.1 hpp.2).mono ?_;rw [<-HRes.out];rintro e v4 ⟨hw,n4⟩;obtain ⟨ra,rc,rfl,o4⟩:=hw;have N4:=bst D3 n4;have H4:=ah H3 N4;have S4:=ah S3 N4;have A4:=bst A3 N4;have O4:Hid _:=o4;have kk:=aA H4.out;obtain ⟨⟨j0,j1,j2⟩,i0,i1,i2⟩:=kk;have kk2:=iB S4.out;obtain ⟨⟨t0,t1,t2,t3,t4,t5⟩,_⟩:=kk2;clear o4))
  all_goals
   go_wp2_with fail;exact bodyPost_ret (v:=.tuple #[.agg #[.int .i64 R.2.1,.int .u64 R.2.2.1,.slice ra R.2.2.2.length rc],cF R.1]) (by simp [results,Tryz.results168,go_sem,j0,j1,j2]) rfl ⟨⟨ra,rc,rfl,aP (aI O4.out (gb3 v4 w.heap.size _ _ _) l3) (Nat.le_of_lt l3)⟩,fU A4 nle _ _ _⟩
theorem zD (z:EntM) (n:Nat):(madeCells (jr z).toArray (n*6)).toList=aR (List.replicate n z):=by
 apply List.ext_getElem?;intro j;by_cases hj:j<n*6
 ·have hq:j/6<(List.replicate n z).length:=by simp;omega
  have:=rH (List.replicate n z) (j/6) (j%6) hq (by omega);rw [show j/6*6+j%6=j by omega] at this;rw [this];have h6:j%6<(jr z).length:=by simp [jr];omega
  simp only [madeCells,List.getElem_replicate];rw [List.getElem?_eq_getElem h6];simp [hj,jr];rw [List.getElem?_eq_getElem (by simpa [jr] using h6)];rfl
 ·rw [List.getElem?_eq_none (by simp [madeCells];omega),List.getElem?_eq_none (by rw [fo];simp;omega)]
theorem yz (n:Nat) (hn:n<=1048576):∃cs:Array Value,cs.toList=aR (List.replicate n cK)∧∀u:World,(Instr.makeSlice 35 (.int .i64 (n:Int)) (.int .i64 (n:Int))).run Tryz.prog u=.ok (.slice (some ⟨u.heap.size,0,none⟩) n n) (u.alloc (.cells cs 121)):=by
 obtain ⟨i0,hi,hz0,hz1,hz2⟩:=info_parts Tryz.infoEnt;refine ⟨madeCells (Value.agg #[.bool false,.int .i64 0,.int .u64 0,.int .u64 0,.bool false,.int .u64 0]).cells (n*6),?_,fun u=>?_⟩
 ·exact zD cK n
 ·have:=run_make (P:=Tryz.prog) u 35 121 i0 _ Tryz.underlying35 hi hz0 .i64 .i64 n n (by omega) (Int.le_refl _) (by rw [hz2];omega) (by omega);rw [hz1] at this;simpa using this
theorem sw (sets ways:Int) (a:Option Addr) (n cap:Nat) (w:World) (hn:n<=1048576) (hs: -9223372036854775808<=sets∧sets<=9223372036854775807) (hw: -9223372036854775808<=ways∧ways<=9223372036854775807):
 Calls Tryz.prog 94 #[.agg #[.int .i64 sets,.int .i64 ways,.slice a n cap]] w fun e w'=>e=.returned (.bool (decide ((sets=1∨sets=2∨sets=4∨sets=8)∧1<=ways∧ways<=4∧(n:Int)=sets*ways)))∧Bw w w':=by
 have n1:=(Below.refl w.heap.size w).alloc nle (Obj.cells #[.int .i64 sets,.int .i64 ways,.slice a n cap] 37);by_cases h1:sets=1∨sets=2∨sets=4∨sets=8
 ·by_cases h2:¬(1<=ways)
  ·rcases h1 with rfl | rfl | rfl | rfl;all_goals
    go_enter Tryz.func94,Tryz.ntmps94;go_wp2_with fail;go_ret;exact ⟨aE (by simp;omega),n1⟩
  ·have h2':=Decidable.not_not.1 h2;clear h2;by_cases h3:¬(ways<=4)
   ·rcases h1 with rfl | rfl | rfl | rfl;all_goals
     go_enter Tryz.func94,Tryz.ntmps94;go_wp2_with fail;go_ret;exact ⟨aE (by simp;omega),n1⟩
   ·have h3':=Decidable.not_not.1 h3;clear h3;rcases h1 with rfl | rfl | rfl | rfl;all_goals
     go_enter Tryz.func94,Tryz.ntmps94;go_wp2_with fail;go_ret;exact ⟨aE (by simp [h2',h3'];rfl),n1⟩
 ·have h1':=h1;simp only [not_or] at h1';obtain ⟨s1,s2,s4,s8⟩:=h1';go_enter Tryz.func94,Tryz.ntmps94;go_wp2_with fail;go_ret;exact ⟨aE (by simp [h1]),n1⟩
def sd (e:EntM):Bool:=e.valid == false && e.level == 0 && e.tag == 0 && e.asid == 0 && e.glob == false && e.pte == 0
theorem Dl (v:Bool) (lv tg asd:Int) (gl:Bool) (pt:Int) (w:World):
 (binOp .eql 121 (.agg #[.bool v,.int .i64 lv,.int .u64 tg,.int .u64 asd,.bool gl,.int .u64 pt]) (.agg #[.bool false,.int .i64 0,.int .u64 0,.int .u64 0,.bool false,.int .u64 0])).run Tryz.prog w=.ok (.bool (sd ⟨v,lv,tg,asd,gl,pt⟩)) w:=by
 unfold sd;cases v
 case true=>(go_simp;try simp)
 by_cases h1:lv=0
 case neg=>(have q1:(lv == 0)=false:=by simpa using h1);(go_simp;try simp [q1])
 subst h1;by_cases h2:tg=0
 case neg=>(have q1:(tg == 0)=false:=by simpa using h2);(go_simp;try simp [q1])
 subst h2;by_cases h3:asd=0
 case neg=>(have q1:(asd == 0)=false:=by simpa using h3);(go_simp;try simp [q1])
 subst h3;cases gl
 case true=>(go_simp;try simp)
 by_cases h4:pt=0
 case neg=>(have q1:(pt == 0)=false:=by simpa using h4);(go_simp;try simp [q1])
 subst h4;go_simp;try simp
end Go.Proofs.YtpdddbobhndbjaaGreat
