import Derived.Test.YtkenjknmfhoppaaGreatPk13
import Derived.Test.YtkenjknmfhoppaaGreatPk22
namespace Go.Proofs.YtkenjknmfhoppaaGreat
open Go.RowKit
set_option linter.unusedVariables false
set_option maxHeartbeats 6400000
set_option maxRecDepth 20000
section
open Go.RowKit Go.Maps
attribute [local go_sem ↓] Go.wp_at_zero Go.wp_at_succ
theorem ID (va lv:Int) (hl:lv=0∨lv=1∨lv=2):(Lit.int .u64 (eg va lv)).wf=true:=by
 have:=qh va lv hl;exact WalkArith.wf_u64 (by omega)
theorem BO (va asd lv:Int) (g:Bool) (hl:lv=0∨lv=1∨lv=2) (h0:0<=asd) (h1:asd<=65535):∃L,kpq Tryz.prog (jT (kq lv (eg va lv) asd g))=some L:=by
 refine Im ?_ (ID va lv hl) ?_
 ·exact WalkArith.wf_i64 (n:=lv) (by omega)
 ·cases g
  ·exact WalkArith.wf_u64 (n:=asd) (by omega)
  ·exact WalkArith.wf_u64 (n:=0) (by omega)
theorem GX (m:List (dh × aQ)) (rs:List aQ) (va asd lv:Int) (g:Bool):
 jI m rs va asd lv g=((ei m (kq lv (eg va lv) asd g)).isSome && !decide ((ei m (kq lv (eg va lv) asd g)).getD (0,0,0)∈rs)):=by
 unfold jI;cases ei m (kq lv (eg va lv) asd g) <;> simp
theorem wO {m:List (dh × aQ)} {rs:List aQ} {va asd:Int} {l:Nat} {g:Bool} (hl:l<3) (h:jI m rs va asd l g=true):gH m rs va asd=false:=by
 unfold gH;have:l=0∨l=1∨l=2:=by omega
 rcases this with rfl | rfl | rfl <;> cases g <;> simp_all
theorem yX {m:List (dh × aQ)} {rs:List aQ} {va asd:Int} (h:∀l:Nat,l<3->∀g,jI m rs va asd l g=false):gH m rs va asd=true:=by
 have h0:=h 0 (by omega);have h1:=h 1 (by omega);have h2:=h 2 (by omega);unfold gH;simp only [Int.natCast_zero] at h0 h1 h2
 simp_all
theorem BP (v:World) (r:aQ):∃v',(Instr.storeAt 142 (PT v.heap.size 0) (oU r)).run Tryz.prog (v.alloc (Obj.cells #[VI 0,VU 0,VU 0] 142))=.ok () v'∧v'.heap[v.heap.size]?=some (.cells #[VI r.1,VU r.2.1,VU r.2.2] 142 (0,0))∧v.heap.size<v'.heap.size∧Bw v v':=by
 have a:=bX v #[VI 0,VU 0,VU 0] 142;refine ⟨_,aR (P:=Tryz.prog) (T:=142) a.1 (by kernel_rfl) rfl (by simp [Value.oneCell']),aH a.1 rfl,?_,aJ nle _ _ _ a.2.2⟩;rw [cJ,a.2.1];exact Nat.lt_succ_self _
theorem AI (mb n:Nat) (gm:List (dh × aQ)) (a:Option Addr) (rc:Nat) (rs:List aQ) (va asd:Int) (w:World) (hg:GMap w mb n gm) (hr:RowC w a rs.length 3 (cG rs)) (hn:rs.length<=3) (hv0:0<=va) (hv1:va<=18446744073709551615) (h0:0<=asd) (h1:asd<=65535):
 Calls Tryz.prog 198 #[.map (some mb),.slice a rs.length rc,VU va,VU asd] w fun e w'=>e=.returned (.bool (gH gm rs va asd))∧Bw w w':=by
 have HG:=hid hg;have HR:=hid hr;obtain ⟨X,hX⟩:∃X,gH gm rs va asd=X:=⟨_,rfl⟩;have HX:=hid hX;rw [hX];clear hX hg hr;go_enter Tryz.func198,Tryz.ntmps198;go_wp2;go_loopw [14] (fun i wr=>∃l:Nat,l<=3∧i=VI l∧Hid (∀l':Nat,l'<l->∀g,jI gm rs va asd l' g=false)∧Bw w wr) (fun i _=>3-(intOf i).toNat)
 case atStart=>exact ⟨0,by omega,rfl,fun l' h=>absurd h (by omega),brf⟩
 case round=>
  obtain ⟨l,hl,rfl,HL,nw⟩:=hrel;by_cases hlt:l<3
  ·have hl3:(l:Int)=0∨(l:Int)=1∨(l:Int)=2:=by omega
   have hlt':decide ((l:Int)<3)=true:=by simp;omega
   go_wp2_with fail;rename_i wr0;go_loopw [18] (fun i wr=>∃j:Nat,j<=2∧i=VI j∧Hid (∀g:Bool,(if g=true then 1 else 0)<j->jI gm rs va asd l g=false)∧Bw w wr) (fun i _=>2-(intOf i).toNat)
   case atStart=>exact ⟨0,by omega,rfl,fun g h=>absurd h (by omega),nw⟩
   case round=>
    obtain ⟨j,hj,rfl,HJ,nr⟩:=hrel;by_cases hjt:j<2
    ·obtain ⟨g,hgj⟩:∃g:Bool,j=if g=true then 1 else 0:=by
      rcases (show j=0∨j=1 by omega) with rfl | rfl
      ·exact ⟨false,rfl⟩
      ·exact ⟨true,rfl⟩
     obtain ⟨L,hL⟩:=BO va asd l g hl3 h0 h1;have HK:=hid fun u (hu:Bw wr u)=>GMap.look ((HG.out.keep nr).keep hu) hL;have HC:=hid fun u=>mT l va asd g u hl3 hv0 hv1;have HM:=hid (GX gm rs va asd l g);generalize jT (kq l (eg va l) asd g)=KV at HK HC;generalize ei gm (kq l (eg va l) asd g)=fd at HK HM;obtain ⟨⟨x1,x2,x3⟩,hR⟩:∃R,fd.getD (0,0,0)=R:=⟨_,rfl⟩;obtain ⟨f,hf⟩:∃f,fd.isSome=f:=⟨_,rfl⟩;rw [hR,hf] at HK HM;clear hR hf hL;have HJn:Hid (jI gm rs va asd l g=false->∀g':Bool,(if g'=true then 1 else 0)<j+1->jI gm rs va asd l g'=false):=fun h g' hg'=>by
      by_cases e:g'=g
      ·rw [e];exact h
      ·exact HJ.out g' (by cases g <;> cases g' <;> simp_all)
     have HIx:Hid (∀u,(Instr.index 319 (.agg #[.bool false,.bool true]) (VI j)).run Tryz.prog u=.ok (.bool g) u):=fun u=>by
      rw [hgj];cases g <;> kernel_rfl
     have hjt':decide ((j:Int)<2)=true:=by simp;omega
     have hix:=HIx.out;clear hgj;go_wp2_with fail;refine (HC.out wr).mono ?_;rintro e v1 ⟨rfl,n1⟩;have hlk:=HK.out v1 n1;obtain ⟨v3,hs3,P3,l3,n3⟩:=BP v1 (x1,x2,x3);have HS3:=hid hs3;have n4:=bst n1 n3;clear hs3;cases f
     ·have HN:Hid (jI gm rs va asd l g=false):=by show _=_;rw [HM.out];rfl
      go_upto_region 8 with (first | ((with_reducible refine ax ?_ ?_ HS3.out ?_);(exact rfl);(exact rfl)));go_wp2;go_roundw
      case rel=>exact ⟨j+1,by omega,by go_num,HJn.out HN.out,bst nr n4⟩
      case measure=>simp [intOf];omega
     ·go_upto_region 8 with (first | ((with_reducible refine ax ?_ ?_ HS3.out ?_);(exact rfl);(exact rfl)));obtain ⟨⟨d0,d1,d2⟩,f0,f1,f2⟩:=aE P3;have CN:=hid (xt a rc rs (x1,x2,x3) v3 (HR.out.keep (bst nr n4)) hn);simp only [Bool.true_and] at HM;clear P3 hlk;generalize decide ((x1,x2,x3)∈rs)=dd at CN HM;go_wp2_with fail;refine Calls.mono CN.out ?_;rintro e v4 ⟨rfl,n5⟩;have n6:=bst n4 n5;cases dd
      ·go_wp2;go_ret;exact ⟨by rw [<-HX.out,wO hlt HM.out];rfl,bst nr n6⟩
      ·go_wp2;go_roundw
       case rel=>exact ⟨j+1,by omega,by go_num,HJn.out HM.out,bst nr n6⟩
       case measure=>simp [intOf];omega
    ·have hin:j=2:=by omega
     subst hin;go_wp2;go_roundw
     case rel=>
      refine ⟨l+1,by omega,by go_num,fun l' hl' g=>?_,nr⟩;by_cases e:l'=l
      ·rw [e];exact HJ.out g (by cases g <;> simp)
      ·exact HL.out l' (by omega) g
     case measure=>simp [intOf];omega
  ·have hin:l=3:=by omega
   subst hin;go_wp2;go_ret;exact ⟨by rw [<-HX.out,yX HL.out];rfl,nw⟩
theorem Dr (va asd:Int) (rs:List aQ) (gm:List (dh × aQ)) (j:Nat) (r:aQ) (h:rs[j]?=some r):jJ va asd (rs.take (j+1)) gm=pT (jJ va asd (rs.take j) gm) (kq r.1 (eg va r.1) asd (bU r.2.2 32)) r:=by
 induction rs generalizing gm j with
 | nil=>simp at h
 | cons x xs ih=>
  cases j with
  | zero=>
   simp at h;subst h;simp [jJ]
  | succ j=>
   simp only [List.take_succ_cons,jJ];exact ih _ j (by simpa using h)
theorem Fh {ops:Array Oper} {rest:List Oper} {o:Oper} {a:Act} {Q:Exit->Act->World->Prop} {w:World} {b n:Nat} {gm:List (dh × aQ)} {k:dh} {L:Lit} {r:aQ} (hg:o.guard=none) (m x v:Operand) (hop:o.op=Op.mapUpdate 70 m x v)
 (hm:a.eval m=.map (some b)) (hx:a.eval x=jT k) (hv:a.eval v=oU r) (h:GMap w b n gm) (hn:n<1048576) (hk:kpq Tryz.prog (jT k)=some L) (hl:k.1=0∨k.1=1∨k.1=2)
 (hK:∀w',GMap w' b (n+1) (pT gm k r)->w.grownBy w' (some b)->wpList Tryz.prog ops Q rest (a.put o.dst undef) w'):wpList Tryz.prog ops Q (o::rest) a w:=by
 refine wpList_plain hg fun K' hK'=>?_;obtain ⟨w',hrun,r1,r2⟩:=h.put hn hk hl r;unfold Oper.wp;simp [execOp,hop,hm,hx,hv,hrun,Result.andThen];exact hK' _ _ (hK w' r1 r2)
theorem JI {v:World} {b i:Nat} {s:Int} (h:v.cell? (AD b i)=some (VU s)):(Instr.loadAt 29 (PT b i)).run Tryz.prog v=.ok (VU s) v:=by go_simp
theorem JJ {v:World} {b i:Nat} {s:Int} (h:v.cell? (AD b i)=some (VI s)):(Instr.loadAt 2 (PT b i)).run Tryz.prog v=.ok (VI s) v:=by go_simp
theorem RowC.map {w w':World} {a:Option Addr} {n size mb:Nat} {cs:List Value} {es:Array MapEntry} {c:Nat} (h:RowC w a n size cs) (hs:0<size) (hb:w.heap[mb]?=some (.map es c)) (hg:w.grownBy w' (some mb)):RowC w' a n size cs:=by
 obtain ⟨h1,h3⟩:=h;refine ⟨h1,?_⟩;rcases h3 with h3 | ⟨b,off,e,lt,hc⟩
 ·exact .inl h3
 ·by_cases hn:n=0
  ·exact .inl hn
  ·refine .inr ⟨b,off,e,ltl lt hg.size,fun i v hv=>?_⟩;have hne:b≠mb:=by
    rintro rfl;have h0:0<cs.length:=by rw [h1];exact Nat.mul_pos (by omega) hs
    have:=hc 0 _ (geg h0);simp [World.cell?,hb] at this
   have e1:=hg.block b lt (by simpa using hne);have:=hc i v hv;unfold World.cell? at this |-;simp only [e1];exact this
theorem GY (mb n:Nat) (gm:List (dh × aQ)) (a:Option Addr) (rc:Nat) (rs:List aQ) (va asd:Int) (w:World) (hg:GMap w mb n gm) (hn:n+3<1048576) (hr:RowC w a rs.length 3 (cG rs)) (hrn:rs.length<=3) (hrl:∀r∈rs,(r.1=0∨r.1=1∨r.1=2)∧0<=r.2.2∧r.2.2<=18446744073709551615) (hv0:0<=va) (hv1:va<=18446744073709551615) (h0:0<=asd) (h1:asd<=65535):
 Calls Tryz.prog 201 #[.map (some mb),.slice a rs.length rc,VU va,VU asd] w fun e w'=>e=.returned (.tuple #[])∧GMap w' mb (n+rs.length) (jJ va asd rs gm)∧w.grownBy w' (some mb):=by
 have HG:=hid hg;have HR:=hid hr;have HL:=hid hrl;clear hg hr hrl;go_enter Tryz.func201,Tryz.ntmps201;go_wp2;go_loopw [12] (fun i wr=>∃k:Nat,k<=rs.length∧i=VI k∧GMap wr mb (n+k) (jJ va asd (rs.take k) gm)∧w.grownBy wr (some mb)∧RowC wr a rs.length 3 (cG rs)) (fun i _=>rs.length-(intOf i).toNat)
 case atStart=>exact ⟨0,Nat.zero_le _,rfl,HG.out,ak _ _,HR.out⟩
 case round=>
  obtain ⟨k,hk,rfl,kg,gw,kr⟩:=hrel;have KG:=hid kg;have KR:=hid kr;clear kg kr;by_cases hlt:k<rs.length
  ·obtain ⟨⟨x1,x2,x3⟩,hs⟩:∃s,rs[k]?=some s:=⟨_,geg hlt⟩;obtain ⟨b,off,rfl⟩:=mU KR.out (by omega);obtain ⟨hb,c0,c1,c2⟩:=oy KR.out hs;obtain ⟨hl3,hx0,hx1⟩:=HL.out _ (List.mem_of_getElem? hs);have HS:=hid hs;have HP:=hid (Dr va asd rs gm k _ hs);have hlt':decide ((k:Int)<(rs.length:Int))=true:=by simp;omega
   obtain ⟨v1,hs1,P1,l1,n1⟩:=BP wr (x1,x2,x3);have HS1:=hid hs1;clear hs hs1;simp only at c0 c1 c2 hl3 hx0 hx1 HP P1;go_upto_region 3 with (first | ((with_reducible refine ax ?_ ?_ HS1.out ?_);(exact rfl);(exact rfl)));simp only [Act.put];clear c0 c1 c2 HS1;obtain ⟨g5,hg5⟩:∃g5,bU x3 32=g5:=⟨_,rfl⟩;have HB:Hid (∀w,Calls Tryz.prog 164 #[VU x3,VU 32] w fun e w'=>e=.returned (.bool g5)∧w'=w):=fun w=>by
    have:=dL x3 32 w;rw [dS 5 x3 32 rfl (by omega) hx0 hx1,hg5] at this;exact this
   rw [hg5] at HP;clear hg5;obtain ⟨L,hL⟩:=BO va asd x1 g5 hl3 h0 h1;have HLt:=hid hL;have HC:=hid fun u=>mT x1 va asd g5 u hl3 hv0 hv1;have HKl:Hid ((kq x1 (eg va x1) asd g5).1=x1):=by show _=_;rfl
   generalize kq x1 (eg va x1) asd g5=KK at HLt HC HP HKl;clear hL;have P1':=hid P1;have HL1:=hid fun u (hu:Bw v1 u)=>JJ (ab (ah P1' hu).out 0 (v:=VI x1) rfl);have HL3:=hid fun u (hu:Bw v1 u)=>JI (ab (ah P1' hu).out 2 (v:=VU x3) rfl);have HLw:=hid fun u (hu:Bw v1 u)=>aT (P:=Tryz.prog) (T:=142) (ah P1' hu).out Tryz.underlying142 rfl (by kernel_rfl);have hF:=bdr v1;refine az (Bw v1) 10 ?_;refine ao 0 16 (.map (some mb)) rfl hF ?_;refine ao 1 17 (PT wr.heap.size 0) rfl hF ?_
   go_frame
   refine ao 2 18 (VI x1) rfl hF ?_ (hy:=fun u hu=>aK rfl (HL1.out u hu));refine ao 3 19 (VU va) rfl hF ?_;refine ao 4 20 (VU asd) rfl hF ?_;refine ao 5 21 (PT wr.heap.size 2) rfl hF ?_
   go_frame
   refine ao 6 22 (VU x3) rfl hF ?_ (hy:=fun u hu=>aK rfl (HL3.out u hu))
   go_frame
   refine ao 9 25 _ rfl hF ?_ (hy:=fun u hu=>aK rfl (HLw.out u hu))
   go_frame
   refine cW 7 23 rfl ((HB.out _).mono ?_);rintro e v2 ⟨rfl,rfl⟩;refine ⟨_,rfl,fun _=>hF,?_⟩
   go_frame
   refine cW 8 24 rfl ((HC.out _).mono ?_);rintro e v3 ⟨rfl,n3⟩;have b3:=bst hF n3;refine ⟨_,rfl,fun _=>b3,?_⟩
   go_frame
   refine kU 10 rfl ?_;have n13:=bst n1 b3;have KG3:=hid (KG.out.keep n13);obtain ⟨es,cl,hmb⟩:=KG3.out.blk;have KR3:=hid (KR.out.keep n13);refine Fh (n:=n+k) (r:=(x1,x2,x3)) rfl (.tmp 16) (.tmp 24) (.tmp 25) rfl rfl rfl rfl KG3.out (by omega) HLt.out (by rw [HKl.out];exact hl3) ?_;intro v4 g4 b4;have KR4:=hid (KR3.out.map (by omega) hmb b4);have GW:Hid (w.grownBy v4 (some mb)):=(gw.andThen (row':=none) (World.grownBy.but ⟨n13.os,n13.tape,n13.output,n13.size,fun i hi _=>n13.block i hi⟩ _) (fun j hj=>by cases hj)).andThen b4 (fun j hj=>.inr hj);have G4:=hid g4;clear g4 b4
   go_frame
   go_wp2;go_roundw
   case rel=>exact ⟨k+1,by omega,by go_num,by rw [HP.out];exact G4.out,GW.out,KR4.out⟩
   case measure=>simp [intOf];omega
  ·have hin:k=rs.length:=by omega
   subst hin;have hlt':decide ((rs.length:Int)<(rs.length:Int))=false:=by simp
   go_wp2_with fail;rw [List.take_length] at KG;exact ⟨rfl,.tuple #[],by kernel_rfl,rfl,KG.out,gw⟩
end
section
open Go.RowKit Go.Maps
attribute [local go_sem ↓] Go.wp_at_zero Go.wp_at_succ
theorem GD (X:Nat->Prop) (cv:Value) (f:FenceM) (k:dh) (r:aQ) (pc:Nat) (w:World) (hC:CovFree X w cv f) (hp:w.heap[pc]?=some (.cells #[cv] 225 (0,0))) (hl:k.1=0∨k.1=1∨k.1=2) (hf:inU f.va):
 Calls Tryz.prog 195 #[jT k,oU r,PT pc 0] w fun e w'=>e=.returned (.bool (fW f k))∧Bw w w':=by
 obtain ⟨lv,tg,asd,gl⟩:=k;obtain ⟨v1,Ev1,n1,H1,H2,l1⟩:=al2 w #[VI lv,VU tg,VU asd,.bool gl] #[VI r.1,VU r.2.1,VU r.2.2] 244 142;have cp:v1.cell? (AD pc 0)=some cv:=ab (ae hp n1 (hpl hp)) 0 rfl;obtain ⟨⟨d0,d1,d2,d3⟩,_⟩:=aP H1.out;obtain ⟨hv,fva,ha,fa⟩:=f;rcases hC with ⟨h1,h2,rfl⟩ | ⟨h1,pf,pv,rfl,xf,xv,hF,hV⟩
 ·rw [show fW ⟨hv,fva,ha,fa⟩ (lv,tg,asd,gl)=false from Ak _ _ _ _ _ h1 h2];clear hp h1 h2 hf;go_enter Tryz.func195,Tryz.ntmps195;go_upto_region 1 with fail;rw [Ev1.out];clear Ev1;go_wp2_with fail;refine (sJ lv tg asd gl v1).mono ?_;rintro e v2 ⟨rfl,n2⟩;go_wp2;go_ret;exact ⟨rfl,bst n1 n2⟩
 ·obtain ⟨cb,hcb⟩:∃cb,fW ⟨hv,fva,ha,fa⟩ (lv,tg,asd,gl)=cb:=⟨_,rfl⟩;have HC:=hid (sK hv fva ha fa lv tg asd gl pf pv v1 hl hf.1 hf.2 (ae hF n1 (hpl hF)) (ae hV n1 (hpl hV)));rw [rq _ _ _ _ _ h1,show eS ⟨hv,fva,ha,fa⟩ lv tg asd gl=cb from hcb] at HC;rw [hcb];clear hp h1 hF hV hcb hf;go_enter Tryz.func195,Tryz.ntmps195;go_upto_region 1 with fail;rw [Ev1.out];clear Ev1;go_wp2_with fail;refine Calls.mono HC.out ?_;rintro e v2 ⟨rfl,n2⟩;go_wp2;go_ret;exact ⟨rfl,bst n1 n2⟩
structure KB where
 k:dh
structure RB where
 r:aQ
theorem jY {w w':World} (h:Bw w w'):w.grownBy w' none:=⟨h.os,h.tape,h.output,h.size,fun i hi _=>h.block i hi⟩
theorem yu (X:Nat->Prop) (cv:Value) (f:FenceM) (pc mb n:Nat) (gm:List (dh × aQ)) (w:World) (hG:GMap w mb n gm) (hX:X mb) (hC:CovFree X w cv f) (hp:w.heap[pc]?=some (.cells #[cv] 225 (0,0))) (hf:inU f.va):
 Calls Tryz.prog 194 #[.map (some mb),.func (.func 195) #[] #[PT pc 0]] w fun e w'=>e=.returned (.tuple #[])∧GMap w' mb n (oJ gm (fW f))∧w.grownBy w' (some mb):=by
 have hpm:pc≠mb:=by
  obtain ⟨es,c,h⟩:=hG.blk;rintro rfl;rw [hp] at h;cases h
 have HD:Hid (∀(W:World) (k:dh) (r:aQ),w.grownBy W (some mb)->(k.1=0∨k.1=1∨k.1=2)->Calls Tryz.prog 195 #[jT k,oU r,PT pc 0] W fun e w'=>e=.returned (.bool (fW f k))∧Bw W w'):=fun W k r hg hl=>
  GD X cv f k r pc W (hC.kp (Kp.of_gb hg hX)) (aA hp hg hpm) hl hf
 obtain ⟨D,hown,R,V⟩:=hG;have lm:=hown.lt;obtain ⟨es0,rfl,hap,hkeys⟩:=hown.entries lY;have HAP:=hid hap;have HR:=hid R;have HV:=hid V;clear hC hp hf R V hap;generalize fW f=cov at HD |-;obtain ⟨fl,hfl⟩:=Kx cov;go_enter Tryz.func194,Tryz.ntmps194;go_wp2_with (first
  | (at_range;refine wpList_range_own _ rfl _ 70 rfl 244 142 lY Tryz.underlying70 xI mb n _ rfl hown ?_;intro w0 hrg0 hg0 hs0)
  | go_in)
 go_frame
 go_loopw [8] (fun _ wr=>∃(left:Lit->Bool) (cnt:Nat),wr.ranges Tryz.prog 244 xI mb w.heap.size n (Fk fl es0 left) left cnt∧w.grownBy wr (some mb)) (fun _ wr=>wr.rangeLeft mb w.heap.size)
 case atStart=>exact ⟨_,_,by rw [Fk_start hkeys];exact hrg0,hg0.but _⟩
 case round=>
  obtain ⟨left,cnt,hrg,hgw⟩:=hrel;go_wp2_with (first
   | (at_next;refine wpList_next_ranges _ rfl _ rfl 244 lY xI (fun x:KB=>jT x.k) (fun x:RB=>oU x.r) (fun key _ hk=>let ⟨k,e⟩:=Gj hk;⟨⟨k⟩,e⟩) (fun v _ hv=>let ⟨r,e,_⟩:=xJ hv;⟨⟨r⟩,e⟩) mb w.heap.size n _ _ _ rfl hrg ?_ ?_)
   | go_in)
  ·intro _ hl0;go_wp2_with fail;refine ⟨rfl,.tuple #[],by kernel_rfl,rfl,⟨_,hrg.owns,?_,?_⟩,hgw⟩
   ·rw [Fk_end hl0];exact HR.out.del ⟨_,rfl⟩ cov hfl
   ·intro k r hr;rw [jH] at hr;split at hr
    ·cases hr
    ·exact HV.out k r hr
  ·rintro ⟨⟨x1,x2,x3,x4⟩⟩ ⟨⟨c1,c2,c3⟩⟩ kl yd yp w1 cnt1 hkey hlx hv hat hrg1 hlt hg1 hs1 hen;simp only at hkey hv hen |-;clear hs1;have hgw1:=hgw.andThen hg1 (fun j hj=>by cases hj;exact Or.inl (Nat.le_refl _));have hlev:x1=0∨x1=1∨x1=2:=by
    have h1:=has_true_of_atKey hat;have h2:has (.map es0) kl=true:=by
     obtain ⟨p,hp,hk⟩:=List.any_eq_true.1 h1;exact List.any_eq_true.2 ⟨p,(List.mem_filter.1 hp).1,hk⟩
    rw [(HR.out (x1,x2,x3,x4) kl hkey).1] at h2;obtain ⟨r,hr⟩:=Option.isSome_iff_exists.1 h2;exact HV.out (x1,x2,x3,x4) r hr
   have hp:fl kl yd=cov (x1,x2,x3,x4):=hfl _ _ _ hkey;obtain ⟨v2,Ev2,n2,K2,R2,l2⟩:=al2 w1 #[VI x1,VU x2,VU x3,.bool x4] #[VI c1,VU c2,VU c3] 244 142;have hc:=hid (HD.out v2 (x1,x2,x3,x4) (c1,c2,c3) (hgw1.andThen (jY n2) (fun j hj=>by cases hj)) hlev);have hrg2:=hrg1.kept (jY n2) (by simp) (by simp);have hgw2:=hgw1.andThen (jY n2) (fun j hj=>by cases hj);go_upto_region 3 with fail;rw [Ev2.out];clear Ev2 hen;obtain ⟨⟨d0,d1,d2,d3⟩,_⟩:=aP K2.out;obtain ⟨⟨r0,r1,r2⟩,_⟩:=aE R2.out;have K2':=hid K2;cases hcv:cov (x1,x2,x3,x4)
   ·rw [hcv] at hc hp;have HPf:=hid hp;have HAt:=hid hat;clear hp hat hcv;go_wp2_with fail;refine Calls.mono hc.out ?_;rintro e v3 ⟨rfl,n3⟩;have hrg3:=hrg2.kept (jY n3) (by simp) (by simp);go_wp2;go_roundw
    case rel=>exact ⟨_,cnt1,by rw [<-Fk_stays HAP.out (lY.key hkey) hlx HPf.out HAt.out];exact hrg3,hgw2.andThen (jY n3) (fun j hj=>by cases hj)⟩
    case measure=>rw [hrg3.left_eq,hrg.left_eq];exact hlt
   ·rw [hcv] at hc hp;have HPf:=hid hp;have HAt:=hid hat;clear hp hat hcv;go_wp2_with fail;refine Calls.mono hc.out ?_;rintro e v3 ⟨rfl,n3⟩;have hrg3:=hrg2.kept (jY n3) (by simp) (by simp);have hgw3:=hgw2.andThen (jY n3) (fun j hj=>by cases hj);obtain ⟨⟨e0,e1,e2,e3⟩,_⟩:=aP (ah K2' n3).out;go_wp2_with (first
     | (at_delete;refine wpList_delete_ranges _ rfl _ _ 70 244 rfl 142 lY Tryz.underlying70 xI mb w.heap.size n _ _ _ rfl hrg3 _ _ rfl hkey ?_;intro w3 cnt3 hrg4 hle hturn;go_frame)
     | go_in)
    rw [strike_twice] at hrg4;go_roundw
    case rel=>exact ⟨_,cnt3,by rw [<-Fk_struck HAP.out (lY.key hkey) hlx HPf.out HAt.out];exact hrg4,hgw3.andThen hturn.grown (fun j hj=>by cases hj;exact Or.inr rfl)⟩
    case measure=>rw [hrg4.left_eq,hrg.left_eq];omega
theorem Aq (X:Nat->Prop) (cv:Value) (f:FenceM) (mb n:Nat) (gm:List (dh × aQ)) (w:World) (hG:GMap w mb n gm) (hX:X mb) (hxn:¬X w.heap.size) (hC:CovFree X w cv f) (hf:inU f.va):
 Calls Tryz.prog 190 #[.map (some mb),cv] w fun e w'=>e=.returned (.tuple #[])∧GMap w' mb n (oJ gm (fW f))∧w.grownBy w' (some mb):=by
 obtain ⟨v1,Ev1,n1,H1,l1⟩:=al1 w #[cv] 225;have HC:=hid (yu X cv f w.heap.size mb n gm v1 (hG.keep n1) hX (hC.kp (Kp.of_below X n1)) H1.out hf);have lm:=hG.lt;have sh:(∃g cs,cv=.func (.func g) #[] cs):=by
  rcases hC with ⟨_,_,rfl⟩ | ⟨_,_,_,rfl,_⟩
  ·exact ⟨_,_,rfl⟩
  ·exact ⟨_,_,rfl⟩
 obtain ⟨g,cs,rfl⟩:=sh;clear hG hC H1;go_enter Tryz.func190,Tryz.ntmps190;go_upto_region 1 with fail;rw [Ev1.out];clear Ev1;go_wp2_with fail;refine Calls.mono HC.out ?_;rintro e v2 ⟨rfl,hg,hgb⟩;have G:Hid (w.grownBy v2 (some mb)):=(World.grownBy.but (jY n1) (some mb)).andThen hgb (fun j hj=>.inr hj);have GG:=hid hg;clear hg hgb;go_wp2_with fail;exact ⟨rfl,.tuple #[],by kernel_rfl,rfl,GG.out,G.out⟩
end
section
open Go.RowKit Go.Maps
abbrev wtA (mb:Nat) (c:Bool):Array Value:=#[.map (some mb),.bool c]
theorem ldm {v:World} {b i:Nat} {mb:Nat} (h:v.cell? (AD b i)=some (.map (some mb))):(Instr.loadAt 70 (PT b i)).run Tryz.prog v=.ok (.map (some mb)) v:=by go_simp
theorem ldr {v:World} {b i n m:Nat} {a:Option Addr} (h:v.cell? (AD b i)=some (.slice a n m)):(Instr.loadAt 136 (PT b i)).run Tryz.prog v=.ok (.slice a n m) v:=by go_simp
theorem sk {h:HartM} {kind:Int}:∀{ps:List aQ},(∀p∈ps,aW p.2.2 p.1=1)->fL h kind ps=ps:=fun hp=>List.filter_eq_self.2 fun p hm=>by simp [hp p hm]
theorem xF {h:HartM} {kind:Int} {ps:List aQ} (hp:∀p∈ps,aW p.2.2 p.1=1) {r:aQ} (hr:aW r.2.2 r.1=2):fL h kind (ps++[r])=if cQ r.2.2 kind h.mode h.sum h.mxr=true then ps++[r] else ps:=by
 have e:=sk (h:=h) (kind:=kind) hp;unfold fL at e |-;rw [List.filter_append,e];cases hg:cQ r.2.2 kind h.mode h.sum h.mxr <;> simp [hr,hg]
theorem Ac (kind mode:Int) (sum mxr:Bool):cQ 0 kind mode sum mxr=false:=by
 rw [rL];simp [lT,bU]
theorem uF {e:TypeId} {size base n c:Nat} {w:World} {a:Option Addr} {cs:List Value} (h:w.ownsRow base e size (.slice a n c) n cs) (hn:0<n):∃g,a=some (AD g 0):=by
 rcases h.2 with ⟨_,h2⟩ | ⟨g,cap,cur,h1,_⟩
 ·omega
 ·simp only [Value.slice.injEq] at h1;exact ⟨g,h1.1⟩
theorem Ei {w:World} {base:Nat} {ra:Option Addr} {rc n:Nat} {ps:List aQ} {r:aQ} (h:w.ownsRow base 142 3 (.slice ra (n+1) rc) (n+1) (cG (ps++[r]))) (hn:ps.length=n):∃g,ra=some (AD g 0)∧n+1<=rc∧rc<=9223372036854775807∧base<=g∧RowC w (some (AD g 0)) (n+1) 3 (cG (ps++[r]))∧RowC w (some (AD g 0)) n 3 (cG ps):=by
 obtain ⟨g,hg⟩:=uF h (by omega);subst hg;have ha:=db h;have hr:RowC w (some (AD g 0)) (n+1) 3 (cG (ps++[r])):=OwnC.row h;have hcap:n+1<=rc∧rc<=maxLen:=by
  rcases h.2 with ⟨h2,_⟩ | ⟨g',cap',cur,h2,_,_,hn',hm',_⟩
  ·simp at h2
  ·simp at h2;obtain ⟨rfl,rfl⟩:=h2;exact ⟨hn',hm'⟩
 refine ⟨g,rfl,hcap.1,by have:=hcap.2;unfold maxLen at this;omega,ha.2.1,hr,?_⟩;have hl:∀l:List aQ,(cG l).length=l.length*3:=by
  intro l
  induction l with
  | nil=>rfl
  | cons x xs ih=>simp [cG,yC,ih];omega
 refine ⟨by rw [hl,hn],?_⟩;by_cases h0:n=0
 ·exact .inl h0
 ·rcases hr.2 with h' | ⟨b,off,e,lt,hc⟩
  ·omega
  ·refine .inr ⟨b,off,e,lt,fun i v hv=>hc i v ?_⟩;rw [jw];exact (List.getElem?_append_left (List.getElem?_eq_some_iff.1 hv).1).trans hv
theorem xG {w:World} {e:TypeId} {size base n c:Nat} {a:Option Addr} {cs:List Value} (h:w.ownsRow base e size (.slice a n c) n cs):RowC w a n size cs:=by
 by_cases hn:n=0
 ·exact ⟨h.1,.inl hn⟩
 ·obtain ⟨g,rfl⟩:=uF h (by omega);exact OwnC.row h
theorem Il (v:World) (x y z:Value) (h:(#[x,y,z]:Array Value).all (·.oneCell')=true):∃v',(Instr.storeAt 312 (PT v.heap.size 0) (.agg #[x,y,z])).run Tryz.prog (v.alloc (Obj.cells #[VI 0,VU 0,SN] 312))=.ok () v'∧Hid (v'.heap[v.heap.size]?=some (.cells #[x,y,z] 312 (0,0)))∧v.heap.size<v'.heap.size∧Bw v v':=by
 have a:=bX v #[VI 0,VU 0,SN] 312;refine ⟨_,aR (P:=Tryz.prog) (T:=312) a.1 (by kernel_rfl) rfl h,aH a.1 rfl,?_,aJ nle _ _ _ a.2.2⟩;rw [cJ,a.2.1];exact Nat.lt_succ_self _
def pM (wb mb n:Nat) (c:Bool) (gm:List (dh × aQ)) (h:HartM) (kind va:Int) (w:World) (e:Ending) (w':World):Prop:=
 e=.returned (.tuple #[])∧w'.heap[wb]?=some (.cells (wtA mb (c || !gH gm (bO h.mem h.satp va).2.2.2 va (aO h.satp))) 74 (0,0))∧
 GMap w' mb (n+3) (jJ va (aO h.satp) (fL h kind (bO h.mem h.satp va).2.2.2) gm)∧Kp (fun i=>i=wb∨i=mb) w w'
theorem Cs (wb mb n:Nat) (c:Bool) (gm:List (dh × aQ)) (h:HartM) (sv:Value) (kind va:Int) (w:World) (hW:w.heap[wb]?=some (.cells (wtA mb c) 74 (0,0))) (hG:GMap w mb n gm) (hn:n+3<1048576) (hs:SrcAt w sv h.mem) (hsp:inU h.satp) (hv:inU va):
 Calls Tryz.prog 192 #[PT wb 0,sv,ki h,VI kind,VU va] w fun e w'=>pM wb mb n c gm h kind va w e w':=by
 have hne:wb≠mb:=by
  obtain ⟨es,cl,h1⟩:=hG.blk;rintro rfl;rw [hW] at h1;cases h1
 have lW:=hpl hW;have lM:=hG.lt;obtain ⟨hv0,hv1⟩:=hv;obtain ⟨hs0,hs1⟩:=hsp;obtain ⟨ps,hsplit,hpl3⟩:=ru h.mem h.satp va hs.bd;have ha:0<=aO h.satp∧aO h.satp<=65535:=by unfold aO;omega
 obtain ⟨v1,Ev1,n1,H1,l1⟩:=al1 w #[VI h.mode,.bool h.sum,.bool h.mxr,VU h.satp] 134;have CW:=hid (ic sv h.mem va h.satp v1 (hs.keep n1) hv0 hv1 hs0 hs1);have CA:=hid (kM h.satp v1 hs0 hs1);unfold pM;obtain ⟨asd,hasd⟩:∃asd,aO h.satp=asd:=⟨_,rfl⟩;rw [hasd] at ha CA |-;obtain ⟨⟨cd,lv,lf,rs⟩,hX⟩:∃X,bO h.mem h.satp va=X:=⟨_,rfl⟩;rw [hX] at hsplit CW |-;obtain ⟨N,hN⟩:∃N,rs.length=N:=⟨_,rfl⟩;have HN:=hid hN;have hrn:N<=3:=by
  rw [<-hN];rcases hsplit.2 with ⟨_,⟨ad,e⟩,_⟩ | ⟨_,e,_⟩
  ·simp only at e;rw [e];simp;omega
  ·simp only at e;rw [e];omega
 obtain ⟨wi,hwi⟩:∃wi,gH gm rs va asd=wi:=⟨_,rfl⟩;have HWI:=hid hwi;simp only [hwi];have HSp:=hid hsplit;have HG1:=hid (hG.keep n1);have HW1:=hid (ae hW n1 lW);clear hX hasd hN hwi hs hG hW hsplit;unfold ki;go_enter Tryz.func192,Tryz.ntmps192;go_upto_region 1 with fail;rw [Ev1.out];clear Ev1;obtain ⟨⟨c0,c1,c2,c3⟩,_⟩:=aP H1.out;go_wp2_with fail;refine Calls.mono CA.out ?_;rintro e v ⟨rfl,hvv⟩;rw [hvv];clear hvv;go_wp2_with fail;refine Calls.mono CW.out ?_;rintro e v2 ⟨hw,n2⟩;obtain ⟨ra,rc,rfl,o2⟩:=hw;simp only [HN.out] at o2 |-;obtain ⟨fv,hfv⟩:∃fv,cK cd=fv:=⟨_,rfl⟩;rw [hfv];obtain ⟨v3,hs3,P3,l3,n3⟩:=Il v2 (VI lv) (VU lf) (.slice ra N rc) (by simp [Value.oneCell']);have HS3:=hid hs3;have n13:=bst n2 n3;have O3:=hid (aq o2 n3);have H3:=ah H1 n13;have W3:=ah HW1 n13;have G3:=hid (HG1.out.keep n13);have N3:=hid (bst n1 n13);have s3:=(bst n1 n13).size;have s2:=n2.size;clear hs3 hfv o2 n2 n3 H1 HW1 HG1 c0 c1 c2 c3 CA CW n13;go_upto_region 3 with (first | ((with_reducible refine ax ?_ ?_ HS3.out ?_);(exact rfl);(exact rfl)));clear HS3;have R3:Hid (RowC v3 ra N 3 (cG rs)):=xG O3.out;have CI:Hid (∀u,Bw v3 u->Calls Tryz.prog 198 #[.map (some mb),.slice ra N rc,VU va,VU asd] u fun e w'=>e=.returned (.bool wi)∧Bw u w'):=fun u hu=>by
  have:=AI mb n gm ra rc rs va asd u (G3.out.keep hu) (by rw [HN.out];exact R3.out.keep hu) (by rw [HN.out];exact hrn) hv0 hv1 ha.1 ha.2;rw [HWI.out,HN.out] at this;exact this
 have HLm:=hid fun u (hu:Bw v3 u)=>ldm (ab (ah W3 hu).out 0 (v:=.map (some mb)) rfl);have HLr:=hid fun u (hu:Bw v3 u)=>ldr (ab (ah P3 hu).out 2 (v:=.slice ra N rc) rfl);have hF:=bdr v3;refine az (Bw v3) 9 ?_;refine ao 0 25 (PT wb 0) rfl hF ?_
 go_frame
 refine ao 1 26 (PT wb 0) rfl hF ?_
 go_frame
 refine ao 2 27 (PT wb 0) rfl hF ?_
 go_frame
 refine ao 3 28 _ rfl hF ?_ (hy:=fun u hu=>aK rfl (HLm.out u hu));refine ao 4 29 (PT v2.heap.size 2) rfl hF ?_
 go_frame
 refine ao 5 30 _ rfl hF ?_ (hy:=fun u hu=>aK rfl (HLr.out u hu));refine ao 6 31 (VU va) rfl hF ?_;refine ao 7 32 (VU asd) rfl hF ?_
 go_frame
 refine cW 8 33 rfl ((CI.out _ hF).mono ?_);rintro e v4 ⟨rfl,n4'⟩;have n4:=bst hF n4';refine ⟨_,rfl,fun _=>n4,?_⟩
 go_frame
 refine kU 9 rfl ?_;have H4:=ah H3 n4;have W4:=ah W3 n4;have P4:=ah P3 n4;have G4:=hid (G3.out.keep n4);have O4:=hid (aq O3.out n4);have N4:=hid (bst N3.out n4);have s4:v2.heap.size<v4.heap.size:=hpl P4.out;have hL2:w.heap.size<v2.heap.size:=by omega
 clear HLm HLr CI hF n4' n4 H3 W3 P3 G3 O3 R3 N3;have FIN:∀v5,(v4=v5∧wi=true)∨(v4.setCell (AD wb 1) (.bool true)=v5∧wi=false)->
  Hid (v5.heap[wb]?=some (.cells (wtA mb (c || !wi)) 74 (0,0)))∧Hid (GMap v5 mb n gm)∧Hid (v5.heap[v2.heap.size]?=some (.cells #[VI lv,VU lf,.slice ra N rc] 312 (0,0)))∧
  Hid (v5.heap[w.heap.size]?=some (.cells #[VI h.mode,.bool h.sum,.bool h.mxr,VU h.satp] 134 (0,0)))∧Hid (v5.ownsRow v1.heap.size 142 3 (.slice ra N rc) N (cG rs))∧Hid (Kp (fun i=>i=wb∨i=mb) w v5)∧v4.heap.size<=v5.heap.size:=by
  rintro v5 (⟨rfl,rfl⟩ | ⟨rfl,rfl⟩)
  ·exact ⟨by rw [Bool.not_true,Bool.or_false];exact W4,G4,P4,H4,O4,Kp.of_below _ N4.out,nle⟩
  ·have g5:=au (ak v4 (some wb)) 1 (.bool true);refine ⟨?_,G4.out.same (g5.block mb (by have:=N4.out.size;omega) (by simpa using Ne.symm hne)),aA P4.out g5 (by omega),aA H4.out g5 (by omega),aD O4.out g5 (by omega),(Kp.of_below _ N4.out).trans (Kp.of_gb g5 (.inl rfl)),g5.size⟩;rw [Bool.not_false,Bool.or_true];exact bB W4.out
 have f1:=ap W4.out 1;have w1:=ab W4.out 1 (v:=.bool c) rfl;have HC5:Hid _:=FIN;clear FIN H4 P4 G4 O4 N4;have CG:=hid fun u (h0:0<=lf) (h1:lf<=18446744073709551615)=>jS lf kind h.mode h.sum h.mxr u h0 h1;have CADD:Hid (∀(u:World) (ks:List aQ) (a:Option Addr) (m:Nat),ks.length=m->m<=3->GMap u mb n gm->RowC u a m 3 (cG ks)->(∀r∈ks,(r.1=0∨r.1=1∨r.1=2)∧0<=r.2.2∧r.2.2<=18446744073709551615)->
  Calls Tryz.prog 201 #[.map (some mb),.slice a m rc,VU va,VU asd] u fun e w'=>e=.returned (.tuple #[])∧GMap w' mb (n+3) (jJ va asd ks gm)∧u.grownBy w' (some mb)):=fun u ks a m hm h3 hg hr hl=>by
  subst hm;exact (GY mb n gm a rc ks va asd u hg hn hr h3 hl hv0 hv1 ha.1 ha.2).mono fun e w' ⟨h1,h2,h4⟩=>⟨h1,h2.mono (by omega),h4⟩
 have FIN2:Hid (∀v5 v6 v8:World,∀ks:List aQ,Hid (v5.heap[wb]?=some (.cells (wtA mb (c || !wi)) 74 (0,0)))->Hid (Kp (fun i=>i=wb∨i=mb) w v5)->Bw v5 v6->fL h kind rs=ks->GMap v8 mb (n+3) (jJ va asd ks gm)->v6.grownBy v8 (some mb)->
  v8.heap[wb]?=some (.cells (wtA mb (c || !wi)) 74 (0,0))∧GMap v8 mb (n+3) (jJ va asd (fL h kind rs) gm)∧Kp (fun i=>i=wb∨i=mb) w v8):=fun v5 v6 v8 ks W5 K5 n6 e g8 b8=>by
  rw [e];exact ⟨aA (ah W5 n6).out b8 hne,g8,(K5.out.trans (Kp.of_below _ n6)).trans (Kp.of_gb b8 (.inr rfl))⟩
 cases wi
 focus
  go_upto_region 5 with fail;obtain ⟨W5,G5,P5,H5,O5,K5,s5⟩:=HC5.out (v4.setCell (AD wb 1) (.bool true)) (.inr ⟨rfl,rfl⟩);clear W4 f1 w1 HC5;generalize v4.setCell (AD wb 1) (.bool true)=v5 at *
 rotate_left
 focus
  go_upto_region 5 with fail;obtain ⟨v5,hv5⟩:∃v5,v4=v5:=⟨_,rfl⟩;obtain ⟨W5,G5,P5,H5,O5,K5,s5⟩:=HC5.out v5 (.inl ⟨hv5,rfl⟩);clear W4 f1 w1 HC5;rw [hv5];clear hv5
 all_goals
  have hwl:wb<v5.heap.size:=hpl W5.out;obtain ⟨⟨p0,p1,p2⟩,_⟩:=aE P5.out;rcases HSp.out with ⟨hps,⟨e1,⟨ad,e2⟩,e3,e4,e5,e6,e7⟩ | ⟨e1,e2,e3⟩⟩
  ·simp only at e1 e2 e3 e4 e5 e6 e7;have hlf:lf≠0:=fun e0=>by rw [e0] at e3;exact sW lv e3
   have GH:=hid (xF (h:=h) (kind:=kind) (fun p hp=>(hps p hp).1) (r:=(lv,ad,lf)) e3);have LV:Hid (∀r∈ps++[(lv,ad,lf)],(r.1=0∨r.1=1∨r.1=2)∧0<=r.2.2∧r.2.2<=18446744073709551615):=fun r hr=>by
    rcases List.mem_append.1 hr with hr | hr
    ·have:=hps r hr;exact ⟨by omega,this.2.2.2⟩
    ·cases List.mem_singleton.1 hr;exact ⟨by simp only;omega,e6,e7⟩
   obtain ⟨n',hn'⟩:∃n',ps.length=n':=⟨_,rfl⟩;obtain rfl:N=n'+1:=by rw [<-HN.out,e2];simp [hn']
   have ER:=hid e2;have HN':=hid hn';rw [e2] at O5;obtain ⟨g,rfl,hr1,hr2,hbg,rA,rB⟩:=Ei O5.out hn';have CP:=hid (oM lv lf g n' rc v5 hlf (by omega) hr1 hr2);have RA:=hid rA;have RB:=hid rB;clear hn' e1 e2 e3 e4 e5 rA rB hps;go_wp2_with fail;refine Calls.mono CP.out ?_;rintro e v6 ⟨rfl,n6⟩;obtain ⟨⟨c0,c1,c2,c3⟩,_⟩:=aP (ah H5 n6).out;obtain ⟨⟨q0,q1,q2⟩,_⟩:=aE (ah P5 n6).out;have m0:=ab (ah W5 n6).out 0 (v:=.map (some mb)) rfl;clear p0 p1 p2;go_wp2_with fail;refine (CG.out v6 e6 e7).mono ?_;rintro e v7 ⟨rfl,rfl⟩;cases hgr:cQ lf kind h.mode h.sum h.mxr
   ·simp only [hgr,Bool.false_eq_true,if_false] at GH;have CB:=hid (CADD.out v7 ps (some (AD g 0)) n' HN'.out (by omega) (G5.out.keep n6) (RB.out.keep n6) (fun r hr=>LV.out r (List.mem_append_left _ hr)));clear hgr;go_wp2_with fail;refine Calls.mono CB.out ?_;rintro e v8 ⟨rfl,g8,b8⟩;have FF:=hid (FIN2.out v5 v7 v8 ps W5 K5 n6 (by rw [ER.out];exact GH.out) g8 b8);clear g8 b8;go_wp2_with fail;exact ⟨rfl,.tuple #[],by kernel_rfl,rfl,FF.out⟩
   ·simp only [hgr,if_true] at GH;have CB:=hid (CADD.out v7 (ps++[(lv,ad,lf)]) (some (AD g 0)) (n'+1) (by simp [HN'.out]) (by omega) (G5.out.keep n6) (RA.out.keep n6) LV.out);clear hgr;go_wp2_with fail;refine Calls.mono CB.out ?_;rintro e v8 ⟨rfl,g8,b8⟩;have FF:=hid (FIN2.out v5 v7 v8 _ W5 K5 n6 (by rw [ER.out];exact GH.out) g8 b8);clear g8 b8;go_wp2_with fail;exact ⟨rfl,.tuple #[],by kernel_rfl,rfl,FF.out⟩
  ·simp only at e2 e3;subst e3;subst e2;have GH:=hid (sk (h:=h) (kind:=kind) (fun p hp=>(hps p hp).1));have LV:Hid (∀r∈rs,(r.1=0∨r.1=1∨r.1=2)∧0<=r.2.2∧r.2.2<=18446744073709551615):=fun r hr=>by
    have:=hps r hr;exact ⟨by omega,this.2.2.2⟩
   have CP:=hid (oL lv ra N rc v5);clear e1 hps;go_wp2_with fail;refine Calls.mono CP.out ?_;rintro e v6 ⟨rfl,n6⟩;obtain ⟨⟨c0,c1,c2,c3⟩,_⟩:=aP (ah H5 n6).out;obtain ⟨⟨q0,q1,q2⟩,_⟩:=aE (ah P5 n6).out;have m0:=ab (ah W5 n6).out 0 (v:=.map (some mb)) rfl;clear p0 p1 p2;go_wp2_with fail;refine (CG.out v6 (by omega) (by omega)).mono ?_;rw [Ac];rintro e v7 ⟨rfl,rfl⟩;have CB:=hid (CADD.out v7 rs ra N HN.out hrn (G5.out.keep n6) ((xG O5.out).keep n6) LV.out);go_wp2_with fail;refine Calls.mono CB.out ?_;rintro e v8 ⟨rfl,g8,b8⟩;have FF:=hid (FIN2.out v5 v7 v8 rs W5 K5 n6 GH.out g8 b8);clear g8 b8;go_wp2_with fail;exact ⟨rfl,.tuple #[],by kernel_rfl,rfl,FF.out⟩
end
theorem kc (h:HartM) (l:Int × Int):∀(ls:List (Int × Int)) (gs:List ay),be h (ls++[l]) gs=if (be h ls gs).1=true then dl (be h ls gs).2 h l else be h ls gs
 | [],gs=>by
  simp only [List.nil_append,be];cases hj:dl gs h l with
  | mk a b=>cases a <;> simp
 | x::xs,gs=>by
  by_cases hx:(dl gs h x).1=true
  ·have e:∀ys,be h (x::ys) gs=be h ys (dl gs h x).2:=fun ys=>by rw [be,if_pos hx]
   rw [List.cons_append,e,kc h l xs];simp only [e]
  ·have e:∀ys,be h (x::ys) gs=(false,(dl gs h x).2):=fun ys=>by rw [be,if_neg hx]
   rw [List.cons_append,e];simp [e]
theorem zg {g h:HartM} (h1:g.mode=h.mode) (h2:g.sum=h.sum) (h3:g.mxr=h.mxr) (kind:Int) (rs:List aQ):fL g kind rs=fL h kind rs:=by
 unfold fL;rw [h1,h2,h3]
def WJ (h0:HartM) (gs0:List ay) (r:RunM) (c:Bool) (gm:List (dh × aQ)):Prop:=
 ((be h0 r.looks gs0).1=true->c=false∧RelG (eu r (be h0 r.looks gs0).2) gm)∧((be h0 r.looks gs0).1=false->c=true)
theorem WJ.look {pick kind va:Int} {h0:HartM} {gs0:List ay} {r:RunM} {c:Bool} {gm:List (dh × aQ)} (hc:SameC 2 r h0) (hj:WJ h0 gs0 r c gm) (hon:onM r.h.mode r.h.satp=true) (hcn:de va=true):
 WJ h0 gs0 (bf true pick r kind va) (c || !gH gm (bO r.h.mem r.h.satp va).2.2.2 va (aO r.h.satp)) (jJ va (aO r.h.satp) (fL r.h kind (bO r.h.mem r.h.satp va).2.2.2) gm):=by
 unfold WJ at hj |-;have ea:∀gs,eu (bf true pick r kind va) gs=gs:=fun gs=>by unfold eu;rw [show (bf true pick r kind va).fenced=r.fenced from rfl,hc.nf];rfl
 have ea':∀gs,eu r gs=gs:=fun gs=>by unfold eu;rw [hc.nf];rfl
 rw [zg hc.mode hc.sum hc.mxr,hc.mem,hc.satp];rw [hc.mode,hc.satp] at hon;simp only [ea,ea'] at hj |-;rw [show (bf true pick r kind va).looks=r.looks++[(kind,va)] from rfl,kc];cases hJ:(be h0 r.looks gs0).1
 ·rw [if_neg (by simp),hJ,hj.2 hJ];exact ⟨fun h=>(by cases h),fun _=>rfl⟩
 ·rw [if_pos rfl];obtain ⟨rfl,R⟩:=hj.1 hJ;rw [Bool.false_or,yE R];unfold dl;rw [if_neg (by rw [hon,hcn];simp)];cases hl:lJ (be h0 r.looks gs0).2 h0 va
  ·simp
  ·simp only [if_true];exact ⟨fun _=>⟨rfl,Dc R h0 kind va hl⟩,fun h=>by cases h⟩
theorem WJ.skip {pick kind va:Int} {h0:HartM} {gs0:List ay} {r:RunM} {c:Bool} {gm:List (dh × aQ)} (hc:SameC 2 r h0) (hj:WJ h0 gs0 r c gm) (hon:onM r.h.mode r.h.satp=false∨de va=false):WJ h0 gs0 (bf true pick r kind va) c gm:=by
 unfold WJ at hj |-;have ea:∀gs,eu (bf true pick r kind va) gs=gs:=fun gs=>by unfold eu;rw [show (bf true pick r kind va).fenced=r.fenced from rfl,hc.nf];rfl
 have ea':∀gs,eu r gs=gs:=fun gs=>by unfold eu;rw [hc.nf];rfl
 rw [hc.mode,hc.satp] at hon;simp only [ea,ea'] at hj |-;rw [show (bf true pick r kind va).looks=r.looks++[(kind,va)] from rfl,kc];have e:dl (be h0 r.looks gs0).2 h0 (kind,va)=(true,(be h0 r.looks gs0).2):=by
  unfold dl;rw [if_pos hon]
 rw [e];cases hJ:(be h0 r.looks gs0).1
 ·rw [if_neg (by simp),hJ];exact ⟨fun h=>(by cases h),fun _=>hj.2 hJ⟩
 ·rw [if_pos rfl];exact ⟨fun _=>hj.1 hJ,fun h=>by cases h⟩
theorem WJ.fence {h0:HartM} {gs0:List ay} {r:RunM} {c:Bool} {gm:List (dh × aQ)} (hc:SameC 2 r h0) (hj:WJ h0 gs0 r c gm) (f:FenceM):WJ h0 gs0 (ow true r f) c (oJ gm (fW f)):=by
 refine ⟨fun h=>?_,hj.2⟩;obtain ⟨h1,h2⟩:=hj.1 h;refine ⟨h1,?_⟩;unfold eu at h2;rw [hc.nf] at h2;exact De h2 f
theorem rE (plain:Bool) (pick kind:Int):∀(ps:List bH) (r:RunM),(ag plain pick kind r ps).1.looks.length<=r.looks.length+ps.length
 | [],r=>by simp [ag]
 | p::ps,r=>by
  unfold ag;split
  ·have:=rE plain pick kind ps (bf plain pick r kind p.1);simp only [bf,List.length_append,List.length_singleton] at this;simp only [List.length_cons];simp only [bf];omega
  ·simp [bS,bf]
theorem wZ (plain:Bool) (pick kind va n:Int) (r:RunM):(aw plain pick r kind va n).1.looks.length<=r.looks.length+2:=by
 have h:=rE plain pick kind (cM va n) r;have hc:(cM va n).length<=2:=by unfold cM;split <;> simp
 unfold aw;split
 ·split
  ·omega
  ·simp only [bS];omega
 ·omega
theorem AQ {n:Nat} {c:Prop} [Decidable c] {a b:RunM} (ha:a.looks.length<=n) (hb:b.looks.length<=n):(if c then a else b).looks.length<=n:=by
 by_cases h:c
 ·rw [if_pos h];exact ha
 ·rw [if_neg h];exact hb
theorem Fs (plain:Bool) (pick:Int) (r:RunM) (pc op a b c s x:Int):(doM plain pick r pc op a b c s x).looks.length<=r.looks.length+2:=by
 unfold doM iB fJ mg;repeat' (with_reducible refine AQ ?_ ?_)
 all_goals first
  | exact Nat.le_add_right _ _
  | exact wZ plain pick _ _ _ r
theorem tH (plain:Bool) (pick:Int) (h:HartM):(bT plain pick h).looks.length<=3:=by
 have h1:(dn plain pick (bI plain pick h)).looks.length<=3:=by
  unfold dn hH fj;repeat' (with_reducible refine AQ ?_ ?_)
  ·exact Fs plain pick _ _ _ _ _ _ _ _
  all_goals simp [bS,bf,bI]
 unfold bT lQ;exact AQ h1 h1
theorem zh (ps:List Int) (i:Nat) (hi:i<ps.length) (h:HartM) (gs:List ay):
 jV (ps.drop i) h gs i=if (be h (bT true ps[i] h).looks gs).1=true then jV (ps.drop (i+1)) (bT true ps[i] h).h (eu (bT true ps[i] h) (be h (bT true ps[i] h).looks gs).2) (i+1) else (false,i):=by
 rw [List.drop_eq_getElem_cons hi,jV]
end Go.Proofs.YtkenjknmfhoppaaGreat
