import Derived.Test.YtkenjknmfhoppaaGreatPk15
import Derived.Test.YtkenjknmfhoppaaGreatPk14
import Derived.Laws.CopyRow
namespace Go.Proofs.YtkenjknmfhoppaaGreat
open Go.RowKit
set_option linter.unusedVariables false
set_option maxHeartbeats 6400000
set_option maxRecDepth 20000
theorem qL (b o:Nat) (sets tag:Int) (w:World) (hs:sets=1∨sets=2∨sets=4∨sets=8) (c0:w.cell? (AD b o)=some (VI sets)) (ht:0<=tag) (ht1:tag<=18446744073709551615):
 Calls Tryz.prog 137 #[PT b o,VU tag] w fun e w'=>e=.returned (VI (tag%sets))∧w'=w:=by
 rcases hs with rfl | rfl | rfl | rfl;all_goals
  go_enter Tryz.func137,Tryz.ntmps137;go_wp2;go_ret;exact ⟨cL (by omega),rfl⟩
theorem qM (b o:Nat) (sets tag:Int) (w:World) (hs:sets=1∨sets=2∨sets=4∨sets=8) (c0:w.cell? (AD b o)=some (VI sets)) (ht:0<=tag) (ht1:tag<=18446744073709551615):
 Calls Tryz.prog 139 #[PT b o,VU tag] w fun e w'=>e=.returned (VI (tag%sets))∧w'=w:=by
 rcases hs with rfl | rfl | rfl | rfl;all_goals
  go_enter Tryz.func139,Tryz.ntmps139;go_wp2;go_ret;exact ⟨cL (by omega),rfl⟩
section
attribute [local go_sem ↓] Go.wp_at_zero Go.wp_at_succ
def ub (z0:Nat) (z1:Bool):Prop:=∀(b o g n:Nat) (t:TlbM) (va asid:Int) (w:World) (hn:t.es.length=n) (hn1:n<=1048576) (hv:aY t z1=true) (hbl:b<w.heap.size)
 (c0:w.cell? (AD b o)=some (VI t.sets)) (c1:w.cell? ⟨b,o+1,none⟩=some (VI t.ways)) (c2:w.cell? ⟨b,o+2,none⟩=some (SL g n n)) (hr:RowC w (some (AD g 0)) n 6 (aC t.es)) (hv0:0<=va) (hv1:va<=18446744073709551615),Calls Tryz.prog z0 #[PT b o,VU va,VU asid] w fun e w'=>e=.returned (.tuple #[VI (cB t va asid).2.1,.bool (cB t va asid).1])∧Bw w w'
theorem qU:ub 229 false∧ub 235 true:=by
 refine ⟨?_,?_⟩;have mL:=trivial
 rotate_left
 have mP:=trivial
 rotate_left
 all_goals
  intro b o g n t va asid w hn hn1 hv hbl c0 c1 c2 hr hv0 hv1;obtain ⟨hs4,hw1,hw4,hnw⟩:=zv hv;first
   | (replace mL:=mL;have HV:Hid (aY t false=true):=hv)
   | (replace mP:=mP;have HV:Hid (aY t true=true):=hv)
  have HEi:=hid (ep hv);have HR:=hid hr;have HN:=hid hn;have HNw:Hid ((n:Int)=t.sets*t.ways):=by show _=_;rw [<-hn];exact hnw
  obtain ⟨X,hX⟩:∃X,cB t va asid=X:=⟨_,rfl⟩;have HX:=hid hX;rw [hX];clear hX hv hr hnw hn;obtain ⟨sets,ways,es⟩:=t;simp only at *;first
   | (replace mL:=mL;go_enter Tryz.func229,Tryz.ntmps229)
   | (replace mP:=mP;go_enter Tryz.func235,Tryz.ntmps235)
  go_wp2;go_loopw [12] (fun i wr=>∃l:Nat,l<=3∧i=VI l∧Hid (∀l':Nat,l'<l->er va asid l' 0 es=none)∧Bw w wr) (fun i _=>3-(intOf i).toNat)
  case atStart=>exact ⟨0,by omega,rfl,fun l' h=>absurd h (by omega),brf⟩
  case round=>
   obtain ⟨l,hl,rfl,HF,hb⟩:=hrel;by_cases hlt:l<3
   ·have hl3:(l:Int)=0∨(l:Int)=1∨(l:Int)=2:=by omega
    obtain ⟨tm,htm⟩:∃tm,eg va l=tm:=⟨_,rfl⟩;have htb:=qh va l hl3;rw [htm] at htb;obtain ⟨sx,hsx⟩:∃sx,tm%sets=sx:=⟨_,rfl⟩;have hsb:0<=sx∧sx<sets:=by rw [<-hsx];exact ⟨Int.emod_nonneg _ (by omega),Int.emod_lt_of_pos _ (by omega)⟩
    obtain ⟨f,hf⟩:∃f:Nat,(f:Int)=sx*ways:=⟨(sx*ways).toNat,Int.toNat_of_nonneg (Int.mul_nonneg hsb.1 (by omega))⟩;have hfn:(f:Int)+ways<=n:=by
     rw [HNw.out,hf];have:(sx+1)*ways<=sets*ways:=Int.mul_le_mul_of_nonneg_right (by omega) (by omega);rw [Int.add_mul,Int.one_mul] at this;exact this
    have HFi:Hid ((f:Int)=eg va l%sets*ways):=by show _=_;rw [htm,hsx];exact hf
    have HWm:=hid hf.symm;have r0:=Below.cell2 hb c0 hbl;have r1:=Below.cell2 hb c1 hbl;have HTg:Hid (∀u,Calls Tryz.prog 168 #[VU va,VI l] u fun e w'=>e=.returned (VU tm)∧∃q,w'=u.drewN q):=fun u=>by
     have:=wD va l u hv0 hv1 hl3;rw [htm] at this;exact this
    first
     | (replace mL:=mL;have HSt:Hid (∀q,Calls Tryz.prog 137 #[PT b o,VU tm] (wr.drewN q) fun e w'=>e=.returned (VI sx)∧w'=wr.drewN q):=fun q=>by
          have:=qL b o sets tm (wr.drewN q) hs4 r0 htb.1 (by omega)
          rw [hsx] at this
          exact this)
     | (replace mP:=mP;have HSt:Hid (∀q,Calls Tryz.prog 139 #[PT b o,VU tm] (wr.drewN q) fun e w'=>e=.returned (VI sx)∧w'=wr.drewN q):=fun q=>by
          have:=qM b o sets tm (wr.drewN q) hs4 r0 htb.1 (by omega)
          rw [hsx] at this
          exact this)
    clear htm hsx;go_wp2;go_cut [9] (fun s9 wx=>s9=VI f∧∃q,wx=wr.drewN q)
    case first=>
     first
      | (replace mL:=mL;go_quiet (first
           | (go_at_call 168;exact Calls.quiet_of (HTg.out _))
           | (go_at_call 137;exact Calls.quiet_of_same (HSt.out _))))
      | (replace mP:=mP;go_quiet (first
           | (go_at_call 168;exact Calls.quiet_of (HTg.out _))
           | (go_at_call 139;exact Calls.quiet_of_same (HSt.out _))))
     go_wp2;go_meet;exact ⟨by rw [HWm.out],nq,rfl⟩
    case rest=>
     obtain ⟨rfl,q,rfl⟩:=hcut;have hb2:Bw w (wr.drewN q):=below_drewN hb q;generalize wr.drewN q=v2 at hb2 |-;clear r0 r1 hb HTg HSt HWm hsb hf;go_wp2_with fail;rename_i wr0;go_loopw [10] (fun i wr=>∃q:Nat,f<=q∧(q:Int)<=f+ways∧i=VI q∧Hid (∀(q':Nat) x,f<=q'->q'<q->es[q']?=some x->jU va asid l x=false)∧Bw w wr) (fun i _=>f+4-(intOf i).toNat)
     case atStart=>exact ⟨f,nle,by omega,rfl,fun q' x h h'=>absurd h' (by omega),hb2⟩
     case round=>
      obtain ⟨q,hq1,hq2,rfl,HQ,hb3⟩:=hrel;have r1:wr.cell? ⟨b,o+1,none⟩=some (VI ways):=Below.cell2 hb3 c1 hbl;have r2:wr.cell? ⟨b,o+2,none⟩=some (SL g n n):=Below.cell2 hb3 c2 hbl;by_cases hqt:(q:Int)<f+ways
      ·have hqn:q<n:=by omega
       obtain ⟨⟨vv,lv,tg,asd,gl,pt⟩,hx⟩:∃x,es[q]?=some x:=⟨_,geg (by rw [HN.out];exact hqn)⟩;have HXq:Hid (es[q]?=some ⟨vv,lv,tg,asd,gl,pt⟩):=hx;have CE:∀j u,j<6->(fM ⟨vv,lv,tg,asd,gl,pt⟩)[j]?=some u->wr.cell? ⟨g,q*6+j,none⟩=some u:=fun j u hj hu=>jt (HR.out.keep hb3) HN.out q _ hx j u hj hu;have g0:wr.cell? ⟨g,q*6,none⟩=some (VI lv):=CE 0 _ (by omega) rfl;have g1:wr.cell? ⟨g,q*6+1,none⟩=some (VU tg):=CE 1 _ (by omega) rfl;have g2:wr.cell? ⟨g,q*6+2,none⟩=some (VU asd):=CE 2 _ (by omega) rfl;have g3:wr.cell? ⟨g,q*6+3,none⟩=some (.bool gl):=CE 3 _ (by omega) rfl;have g4:wr.cell? ⟨g,q*6+4,none⟩=some (.bool vv):=CE 4 _ (by omega) rfl;have HNx:Hid (jU va asid l ⟨vv,lv,tg,asd,gl,pt⟩=false->∀(q':Nat) x,f<=q'->q'<q+1->es[q']?=some x->jU va asid l x=false):=fun h q' x h1 h2 h3=>by
        by_cases e:q'=q
        ·subst e;rw [HXq.out] at h3;cases h3;exact h
        ·exact HQ.out q' x h1 (by omega) h3
       clear CE hx;cases vv
       ·go_wp2;go_roundw
        case rel=>exact ⟨q+1,by omega,by omega,by go_num,HNx.out (by simp [jU,kN]),hb3⟩
        case measure=>simp [intOf];omega
       ·by_cases hlv:lv=l
        ·subst hlv;obtain ⟨fb,hfb⟩:∃fb,((tg == eg va l) && (gl || asd == asid))=fb:=⟨_,rfl⟩;have HFt:Hid (∀u,Calls Tryz.prog 231 #[.agg #[VI l,VU tg,VU asd,.bool gl],VU va,VU asid] u fun e w'=>e=.returned (.bool fb)∧Bw u w'):=fun u=>by
          have:=F8 l tg asd va asid gl u hl3 hv0 hv1;rw [hfb] at this;exact this
         have HHb:Hid (jU va asid l ⟨true,l,tg,asd,gl,pt⟩=fb):=by
          show _=_;rw [<-hfb];simp [jU,kN]
         clear hfb;go_wp2_with fail;refine (HFt.out wr).mono ?_;rintro e v5 ⟨rfl,n5⟩;have A5:=bst hb3 n5;cases fb
         ·go_wp2;go_roundw
          case rel=>exact ⟨q+1,by omega,by omega,by go_num,HNx.out HHb.out,A5⟩
          case measure=>simp [intOf];omega
         ·have hx:X=(true,(q:Int),(l:Int),pt):=by
           rw [<-HX.out];have hfi:=DM (t:=⟨sets,ways,es⟩) (k:=q-f) HV.out HFi.out (by simp only;rw [show f+(q-f)=q by omega];exact HXq.out) HHb.out (fun j y hj hy=>HQ.out (f+j) y (by omega) (by omega) hy);rw [show f+(q-f)=q by omega] at hfi;exact Gn ⟨sets,ways,es⟩ va asid l q _ HEi.out (by omega) HF.out hfi
          subst hx;go_wp2_with fail;first
           | (replace mL:=mL;exact bodyPost_ret (v:=.tuple #[VI q,.bool true]) (by simp [results,Tryz.results229,go_sem]) rfl ⟨rfl,A5⟩)
           | (replace mP:=mP;exact bodyPost_ret (v:=.tuple #[VI q,.bool true]) (by simp [results,Tryz.results235,go_sem]) rfl ⟨rfl,A5⟩)
        ·have hlv':(lv == (l:Int))=false:=by simpa using hlv
         go_wp2;go_roundw
         case rel=>exact ⟨q+1,by omega,by omega,by go_num,HNx.out (by simp [jU,hlv]),hb3⟩
         case measure=>simp [intOf];omega
      ·have hqe:(q:Int)=f+ways:=by omega
       have hnn:=DL (t:=⟨sets,ways,es⟩) HV.out HFi.out (fun j x hj hx=>HQ.out (f+j) x (by omega) (by simp only at hj;omega) hx);have HNn:=hid hnn;clear hnn;go_wp2;go_roundw
       case rel=>exact ⟨l+1,by omega,by go_num,fun l' hl'=>by
        by_cases e:l'=l
        ·subst e;exact HNn.out
        ·exact HF.out l' (by omega),hb3⟩
       case measure=>simp [intOf];omega
   ·have hl3:l=3:=by omega
    subst hl3;have hx:X=(false,0,0,0):=by
     rw [<-HX.out];exact Cv _ va asid HEi.out HF.out
    subst hx;go_wp2_with fail;first
     | (replace mL:=mL;exact bodyPost_ret (v:=.tuple #[VI 0,.bool false]) (by simp [results,Tryz.results229,go_sem]) rfl ⟨rfl,hb⟩)
     | (replace mP:=mP;exact bodyPost_ret (v:=.tuple #[VI 0,.bool false]) (by simp [results,Tryz.results235,go_sem]) rfl ⟨rfl,hb⟩)
end
theorem oL (lv:Int) (ra:Option Addr) (n rc:Nat) (w:World):
 Calls Tryz.prog 199 #[.agg #[VI lv,VU 0,.slice ra n rc]] w fun e w'=>e=.returned (.slice ra n rc)∧Bw w w':=by
 have n1:=(Below.refl w.heap.size w).alloc nle (Obj.cells #[VI lv,VU 0,.slice ra n rc] 312);go_enter Tryz.func199,Tryz.ntmps199;go_wp2;go_ret;exact ⟨rfl,n1⟩
theorem oM (lv lf:Int) (g n rc:Nat) (w:World) (h:lf≠0) (hn:n<=3) (hn1:n+1<=rc) (hrc:rc<=9223372036854775807):
 Calls Tryz.prog 199 #[.agg #[VI lv,VU lf,SL g (n+1) rc]] w fun e w'=>e=.returned (SL g n rc)∧Bw w w':=by
 have n1:=(Below.refl w.heap.size w).alloc nle (Obj.cells #[VI lv,VU lf,SL g (n+1) rc] 312);have h':(lf == 0)=false:=by simpa using h
 go_enter Tryz.func199,Tryz.ntmps199;go_wp2;go_ret;exact ⟨by simp,n1⟩
theorem yn (b:Nat) (kind:Int) (w:World):
 Calls Tryz.prog 228 #[PT b 20,VI kind] w fun e w'=>e=.returned (.pointer (some ⟨b,if kind=0 then 20 else 23,none⟩))∧w'=w:=by
 by_cases h:kind=0
 ·subst h;go_enter Tryz.func228,Tryz.ntmps228;go_wp2;go_ret;exact ⟨rfl,rfl⟩
 ·rw [if_neg h];go_enter Tryz.func228,Tryz.ntmps228;go_wp2;go_ret;exact ⟨rfl,rfl⟩
theorem ED (b base gi gd gp:Nat) (k:KM) (sv:Value) (zs:List Int) (satp va:Int) (w:World) (hS:SetM w b base gi gd gp k) (hk:aY k.p true=true) (hko:∀e∈k.p.es,iW e) (hkl:k.p.es.length<=1048576)
 (hB:SrcAt w sv zs) (hv0:0<=va) (hv1:va<=18446744073709551615) (hr0:0<=satp) (hr1:satp<=18446744073709551615):
 Calls Tryz.prog 232 #[PT b 20,sv,VU satp,VU va] w fun e w'=>AJ w.heap.size w' e (aX zs satp va (cB k.p va (aO satp)))∧Bw w w':=by
 have HS:=hid hS;have HB:=hid hB;have hb:=hS.lt;obtain ⟨⟨f,i,l,pt⟩,hX⟩:∃X,cB k.p va (aO satp)=X:=⟨_,rfl⟩;have HX:=hid hX;have HGet:Hid (f=true->∃(q:Nat) (x:EntM),k.p.es[q]?=some x∧i=(q:Int)∧l=x.level∧pt=x.pte∧(x.level=1∨x.level=2)):=fun hf=>by
  obtain ⟨q,x,h1,h2,h3,h4,_,h6⟩:=ot k.p va (aO satp) (by rw [hX];exact hf);rw [hX] at h2 h3 h4;refine ⟨q,x,h1,h2,h3,h4,?_⟩;have hp:=jc hk q x h1;simp only [dy,Bool.or_eq_true,Bool.and_eq_true,beq_iff_eq] at hp;rcases hp with hp | hp
  ·rw [h6] at hp;simp at hp
  ·have hg:=hp.1;simp only [bK,Bool.and_eq_true,decide_eq_true_eq,beq_iff_eq,rC,if_true] at hg;have hkd:=hg.2;have hlv:=hg.1.1.1.1.1.2;have hlv2:=hg.1.1.1.1.2;rcases (show x.level=0∨x.level=1∨x.level=2 by omega) with h0 | h0 | h0
   ·rw [h0] at hkd;exact absurd hkd (jF _)
   ·exact .inl h0
   ·exact .inr h0
 obtain ⟨R,hR⟩:∃R,aX zs satp va (f,i,l,pt)=R:=⟨_,rfl⟩;have HRs:=hid hR;rw [hX,hR];clear hX hS hB hR;obtain ⟨v1,Ev1,n1,H1,l1⟩:=al1 w #[VI 0,VU 0,SN] 312;go_enter Tryz.func232,Tryz.ntmps232;go_wp2_with fail;rw [Ev1.out];clear Ev1;have HF:Hid (∀u:Lies v1,Calls Tryz.prog 235 #[PT b 26,VU va,VU (aO satp)] u.w fun e w'=>e=.returned (.tuple #[VI i,.bool f])∧Below u.w.heap.size u.w w'):=fun u=>by
  have S:=HS.out.keep (bst n1 u.h);obtain ⟨c0,c1,c2⟩:=S.cellP;have:=qU.2 b 26 gp k.p.es.length k.p va (aO satp) u.w rfl hkl hk S.lt c0 c1 c2 (eI S.2.1.2.2.1) hv0 hv1;rw [HX.out] at this;exact this
 have HA:=hid fun (u:Lies v1)=>kM satp u.w hr0 hr1;generalize aO satp=asd at HF HA;have ne:=eU v1;refine da (by kernel_rfl) (by kernel_rfl) ?_;repeat (go_big_quiet_step ((first
  | (go_at_call 196;exact kD _ (HA.out _))
  | (go_at_call 235;exact gJ _ (HF.out _)))))
 refine wpQuiet_nil ?_;rintro _ ⟨u,rfl⟩;have n2:=u.h;generalize u.w=v2 at n2 |-;have H2:=ah H1 n2;have A2:=bst n1 n2;have l2:=ltl l1 n2.size;clear n1 n2 H1 ne HF HA;obtain ⟨⟨d0,d1,d2⟩,e0,e1,e2⟩:=aE H2.out;cases f
 ·have hres:R=bO zs satp va:=by rw [<-HRs.out];simp [aX]
  go_wp2_with fail;refine (ic sv zs va satp v2 (HB.out.keep A2) hv0 hv1 hr0 hr1).mono ?_;rw [<-hres];rintro e v3 ⟨hw,n3⟩;have H3:=ah H2 n3;have A3:=bst A2 n3;obtain ⟨ra,rc,rfl,o3⟩:=hw;clear d0 d1 d2 e0 e1 e2 hres HRs;obtain ⟨⟨d0,d1,d2⟩,e0,e1,e2⟩:=aE H3.out;go_wp2_with fail;exact bodyPost_ret (v:=.tuple #[.agg #[VI R.2.1,VU R.2.2.1,.slice ra R.2.2.2.length rc],cK R.1]) (by simp [results,Tryz.results232,go_sem,d0,d1,d2]) rfl ⟨⟨ra,rc,rfl,bW (aD o3 (gb3 v3 w.heap.size _ _ _) l2) (by omega)⟩,kT A3 nle _ _ _⟩
 ·obtain ⟨q,x,hx,rfl,rfl,rfl,hlv⟩:=HGet.out (by trivial);have hok:=hko x (List.mem_of_getElem? hx);have hql:=(List.getElem?_eq_some_iff.1 hx).1;have S2:=HS.out.keep A2;obtain ⟨_,_,p2⟩:=S2.cellP;have p2':=p2;clear p2;have CE:=fun j u (hj:j<6) (hu:(fM x)[j]?=some u)=>jt (eI S2.2.1.2.2.1) rfl q _ hx j u hj hu;have g0:v2.cell? ⟨gp,q*6,none⟩=some (VI x.level):=CE 0 _ (by omega) rfl;have g1:v2.cell? ⟨gp,q*6+1,none⟩=some (VU x.tag):=CE 1 _ (by omega) rfl;have g2:v2.cell? ⟨gp,q*6+2,none⟩=some (VU x.asid):=CE 2 _ (by omega) rfl;have g3:v2.cell? ⟨gp,q*6+3,none⟩=some (.bool x.glob):=CE 3 _ (by omega) rfl;have g4:v2.cell? ⟨gp,q*6+4,none⟩=some (.bool x.valid):=CE 4 _ (by omega) rfl;have g5:v2.cell? ⟨gp,q*6+5,none⟩=some (VU x.pte):=CE 5 _ (by omega) rfl;obtain ⟨ll,hsub,hl1⟩:∃ll:Nat,x.level-1=(ll:Int)∧ll<=1:=by
   rcases hlv with h | h
   ·exact ⟨0,by rw [h];rfl,by omega⟩
   ·exact ⟨1,by rw [h];rfl,by omega⟩
  have hL1:1<=x.level:=by omega
  have hL2:x.level<=2:=by omega
  have hres:R=bD zs va ll (dK x.pte):=by
   rw [<-HRs.out];simp only [aX,if_true];rw [hsub];simp
  have HRes:Hid (R=bD zs va ll (dK x.pte)):=hres;have hpb:=hok.2.2.2;have htb:Hid (∀u:World,Calls Tryz.prog 236 #[VU x.pte] u fun e w'=>e=.returned (VU (dK x.pte))∧w'=u):=fun u=>F7 x.pte u hpb.1 hpb.2;have hpp:=wC x.pte;clear CE hres HRs HX HGet hlv S2 hx;generalize dK x.pte=pp at *;generalize x.level=L0 at *;generalize x.tag=tg at *;generalize x.asid=ad at *;generalize x.glob=gl at *;generalize x.valid=vv at *;generalize x.pte=pt at *;obtain ⟨v3,Ev3,n3,S3,_⟩:=al1 v2 #[VI L0,VU tg,VU ad,.bool gl,.bool vv,VU pt] 251;go_wp2_with fail;rw [Ev3.out];clear Ev3;have H3:=ah H2 n3;have A3:=bst A2 n3;have l3:w.heap.size<v3.heap.size:=ltl l2 n3.size;clear g0 g1 g2 g3 g4 g5 p2' d0 d1 d2 e0 e1 e2 n3 H2 A2;obtain ⟨⟨g0,g1,g2,g3,g4,g5⟩,_⟩:=jg S3.out;have D3:=bdr v3;have nev1:v2.heap.size≠w.heap.size:=by omega
  have nev2:w.heap.size≠v2.heap.size:=by omega
  have hwl:IntKind.i64.wrap (ll:Int)=(ll:Int):=(IntKind.wrap_i64 _).trans (by omega);clear g1 g2 g3 g4 hk hko hkl hb hok hql HS;clear l1 l2 hr0 hr1;go_region_held3 (fun w'=>w'.cell? (AD v2.heap.size 0)=some (VI L0)∧w'.cell? (AD v2.heap.size 5)=some (VU pt)) (go_keep)
   (first
   | (go_at_call 236;refine (htb.out _).mono ?_;rintro e w' ⟨rfl,rfl⟩)
   | (go_at_call 203;refine (qa sv zs va pp ll v3.drew (HB.out.keep (bst A3 D3)) (by omega) hv0 hv1 hpp.1 hpp.2).mono ?_;rw [<-HRes.out];rintro e v4 ⟨hw,n4⟩;obtain ⟨ra,rc,rfl,o4⟩:=hw;have N4:=bst D3 n4;have H4:=ah H3 N4;have S4:=ah S3 N4;have A4:=bst A3 N4;have O4:Hid _:=o4;have kk:=aE H4.out;obtain ⟨⟨j0,j1,j2⟩,i0,i1,i2⟩:=kk;have kk2:=jg S4.out;obtain ⟨⟨t0,t1,t2,t3,t4,t5⟩,_⟩:=kk2;clear o4))
  all_goals
   go_wp2_with fail;exact bodyPost_ret (v:=.tuple #[.agg #[VI R.2.1,VU R.2.2.1,.slice ra R.2.2.2.length rc],cK R.1]) (by simp [results,Tryz.results232,go_sem,j0,j1,j2]) rfl ⟨⟨ra,rc,rfl,bW (aD O4.out (gb3 v4 w.heap.size _ _ _) l3) (Nat.le_of_lt l3)⟩,kT A4 nle _ _ _⟩
theorem Dv (z:EntM) (n:Nat):(madeCells (po z).toArray (n*6)).toList=cH (List.replicate n z):=by
 apply List.ext_getElem?;intro j;by_cases hj:j<n*6
 ·have hq:j/6<(List.replicate n z).length:=by simp;omega
  have:=tq (List.replicate n z) (j/6) (j%6) hq (by omega);rw [show j/6*6+j%6=j by omega] at this;rw [this];have h6:j%6<(po z).length:=by simp [po];omega
  simp only [madeCells,List.getElem_replicate];rw [geg h6];simp [hj,po];rw [geg (by simpa [po] using h6)];rfl
 ·rw [List.getElem?_eq_none (by simp [madeCells];omega),List.getElem?_eq_none (by rw [jC];simp;omega)]
theorem BS (n:Nat) (hn:n<=1048576):∃cs:Array Value,cs.toList=cH (List.replicate n cZ)∧∀u:World,(Instr.makeSlice 37 (VI (n:Int)) (VI (n:Int))).run Tryz.prog u=.ok (SL u.heap.size n n) (u.alloc (.cells cs 127)):=by
 obtain ⟨i0,hi,hz0,hz1,hz2⟩:=info_parts Tryz.infoEnt;refine ⟨madeCells (Value.agg #[.bool false,VI 0,VU 0,VU 0,.bool false,VU 0]).cells (n*6),?_,fun u=>?_⟩
 ·exact Dv cZ n
 ·have:=run_make (P:=Tryz.prog) u 37 127 i0 _ Tryz.underlying37 hi hz0 .i64 .i64 n n (by omega) (Int.le_refl _) (by rw [hz2];omega) (by omega);rw [hz1] at this;simpa using this
theorem uc (sets ways:Int) (a:Option Addr) (n cap:Nat) (w:World) (hn:n<=1048576) (hs: -9223372036854775808<=sets∧sets<=9223372036854775807) (hw: -9223372036854775808<=ways∧ways<=9223372036854775807):
 Calls Tryz.prog 135 #[.agg #[VI sets,VI ways,.slice a n cap]] w fun e w'=>e=.returned (.bool (decide ((sets=1∨sets=2∨sets=4∨sets=8)∧1<=ways∧ways<=4∧(n:Int)=sets*ways)))∧Bw w w':=by
 have n1:=(Below.refl w.heap.size w).alloc nle (Obj.cells #[VI sets,VI ways,.slice a n cap] 39);by_cases h1:sets=1∨sets=2∨sets=4∨sets=8
 ·by_cases h2:¬(1<=ways)
  ·rcases h1 with rfl | rfl | rfl | rfl;all_goals
    go_enter Tryz.func135,Tryz.ntmps135;go_wp2;go_ret;exact ⟨aL (by simp;omega),n1⟩
  ·have h2':=Decidable.not_not.1 h2;clear h2;by_cases h3:¬(ways<=4)
   ·rcases h1 with rfl | rfl | rfl | rfl;all_goals
     go_enter Tryz.func135,Tryz.ntmps135;go_wp2;go_ret;exact ⟨aL (by simp;omega),n1⟩
   ·have h3':=Decidable.not_not.1 h3;clear h3;rcases h1 with rfl | rfl | rfl | rfl;all_goals
     go_enter Tryz.func135,Tryz.ntmps135;go_wp2;go_ret;exact ⟨aL (by simp [h2',h3'];rfl),n1⟩
 ·have h1':=h1;simp only [not_or] at h1';obtain ⟨s1,s2,s4,s8⟩:=h1';go_enter Tryz.func135,Tryz.ntmps135;go_wp2;go_ret;exact ⟨aL (by simp [h1]),n1⟩
def tV (e:EntM):Bool:=e.valid == false && e.level == 0 && e.tag == 0 && e.asid == 0 && e.glob == false && e.pte == 0
theorem II (v:Bool) (lv tg asd:Int) (gl:Bool) (pt:Int) (w:World):
 (binOp .eql 127 (.agg #[.bool v,VI lv,VU tg,VU asd,.bool gl,VU pt]) (.agg #[.bool false,VI 0,VU 0,VU 0,.bool false,VU 0])).run Tryz.prog w=.ok (.bool (tV ⟨v,lv,tg,asd,gl,pt⟩)) w:=by
 unfold tV;cases v
 case true=>(go_simp;try simp)
 by_cases h1:lv=0
 case neg=>(have q1:(lv == 0)=false:=by simpa using h1);(go_simp;try simp [q1])
 subst h1;by_cases h2:tg=0
 case neg=>(have q1:(tg == 0)=false:=by simpa using h2);(go_simp;try simp [q1])
 subst h2;by_cases h3:asd=0
 case neg=>(have q1:(asd == 0)=false:=by simpa using h3);(go_simp;try simp [q1])
 subst h3;cases gl
 case true=>(go_simp;try simp)
 by_cases h4:pt=0
 case neg=>(have q1:(pt == 0)=false:=by simpa using h4);(go_simp;try simp [q1])
 subst h4;go_simp;try simp
end Go.Proofs.YtkenjknmfhoppaaGreat
