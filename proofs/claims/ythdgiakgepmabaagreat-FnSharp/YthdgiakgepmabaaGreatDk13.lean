import Derived.Test.YthdgiakgepmabaaGreatDk11
namespace Go.Proofs.YthdgiakgepmabaaGreat
open Go.RowKit
set_option linter.unusedVariables false
set_option maxHeartbeats 6400000
set_option maxRecDepth 20000
theorem jN (h:HartM) (l:Int × Int):∀(ls:List (Int × Int)) (gs:List ay),aZ h (ls++[l]) gs=if (aZ h ls gs).1=true then cV (aZ h ls gs).2 h l else aZ h ls gs
 | [],gs=>by
  simp only [List.nil_append,aZ];cases hj:cV gs h l with
  | mk a b=>cases a <;> simp
 | x::xs,gs=>by
  by_cases hx:(cV gs h x).1=true
  ·have e:∀ys,aZ h (x::ys) gs=aZ h ys (cV gs h x).2:=fun ys=>by rw [aZ,if_pos hx]
   rw [List.cons_append,e,jN h l xs];simp only [e]
  ·have e:∀ys,aZ h (x::ys) gs=(false,(cV gs h x).2):=fun ys=>by rw [aZ,if_neg hx]
   rw [List.cons_append,e];simp [e]
theorem ya {g h:HartM} (h1:g.mode=h.mode) (h2:g.sum=h.sum) (h3:g.mxr=h.mxr) (kind:Int) (rs:List aP):fA g kind rs=fA h kind rs:=by
 unfold fA;rw [h1,h2,h3]
def WJ (h0:HartM) (gs0:List ay) (r:RunM) (c:Bool) (gm:List (cU × aP)):Prop:=
 ((aZ h0 r.looks gs0).1=true->c=false∧RelG (dX r (aZ h0 r.looks gs0).2) gm)∧((aZ h0 r.looks gs0).1=false->c=true)
theorem WJ.look {pick kind va:Int} {h0:HartM} {gs0:List ay} {r:RunM} {c:Bool} {gm:List (cU × aP)} (hc:SameC 2 r h0) (hj:WJ h0 gs0 r c gm) (hon:onM r.h.mode r.h.satp=true) (hcn:cR va=true):
 WJ h0 gs0 (bf true pick r kind va) (c || !fW gm (bD r.h.mem r.h.satp va).2.2.2 va (aN r.h.satp)) (jw va (aN r.h.satp) (fA r.h kind (bD r.h.mem r.h.satp va).2.2.2) gm):=by
 unfold WJ at hj |-;have ea:∀gs,dX (bf true pick r kind va) gs=gs:=fun gs=>by unfold dX;rw [show (bf true pick r kind va).fenced=r.fenced from rfl,hc.nf];rfl
 have ea':∀gs,dX r gs=gs:=fun gs=>by unfold dX;rw [hc.nf];rfl
 rw [ya hc.mode hc.sum hc.mxr,hc.mem,hc.satp];rw [hc.mode,hc.satp] at hon;simp only [ea,ea'] at hj |-;rw [show (bf true pick r kind va).looks=r.looks++[(kind,va)] from rfl,jN];cases hJ:(aZ h0 r.looks gs0).1
 ·rw [if_neg (by simp),hJ,hj.2 hJ];exact ⟨fun h=>(by cases h),fun _=>rfl⟩
 ·rw [if_pos rfl];obtain ⟨rfl,R⟩:=hj.1 hJ;rw [Bool.false_or,xA R];unfold cV;rw [if_neg (by rw [hon,hcn];simp)];cases hl:kS (aZ h0 r.looks gs0).2 h0 va
  ·simp
  ·simp only [if_true];exact ⟨fun _=>⟨rfl,Br R h0 kind va hl⟩,fun h=>by cases h⟩
theorem WJ.skip {pick kind va:Int} {h0:HartM} {gs0:List ay} {r:RunM} {c:Bool} {gm:List (cU × aP)} (hc:SameC 2 r h0) (hj:WJ h0 gs0 r c gm) (hon:onM r.h.mode r.h.satp=false∨cR va=false):WJ h0 gs0 (bf true pick r kind va) c gm:=by
 unfold WJ at hj |-;have ea:∀gs,dX (bf true pick r kind va) gs=gs:=fun gs=>by unfold dX;rw [show (bf true pick r kind va).fenced=r.fenced from rfl,hc.nf];rfl
 have ea':∀gs,dX r gs=gs:=fun gs=>by unfold dX;rw [hc.nf];rfl
 rw [hc.mode,hc.satp] at hon;simp only [ea,ea'] at hj |-;rw [show (bf true pick r kind va).looks=r.looks++[(kind,va)] from rfl,jN];have e:cV (aZ h0 r.looks gs0).2 h0 (kind,va)=(true,(aZ h0 r.looks gs0).2):=by
  unfold cV;rw [if_pos hon]
 rw [e];cases hJ:(aZ h0 r.looks gs0).1
 ·rw [if_neg (by simp),hJ];exact ⟨fun h=>(by cases h),fun _=>hj.2 hJ⟩
 ·rw [if_pos rfl];exact ⟨fun _=>hj.1 hJ,fun h=>by cases h⟩
theorem WJ.fence {h0:HartM} {gs0:List ay} {r:RunM} {c:Bool} {gm:List (cU × aP)} (hc:SameC 2 r h0) (hj:WJ h0 gs0 r c gm) (f:FenceM):WJ h0 gs0 (mN true r f) c (mX gm (fK f)):=by
 refine ⟨fun h=>?_,hj.2⟩;obtain ⟨h1,h2⟩:=hj.1 h;refine ⟨h1,?_⟩;unfold dX at h2;rw [hc.nf] at h2;exact Bt h2 f
theorem qI (plain:Bool) (pick kind:Int):∀(ps:List bw) (r:RunM),(ag plain pick kind r ps).1.looks.length<=r.looks.length+ps.length
 | [],r=>by simp [ag]
 | p::ps,r=>by
  unfold ag;split
  ·have:=qI plain pick kind ps (bf plain pick r kind p.1);simp only [bf,List.length_append,List.length_singleton] at this;simp only [List.length_cons];simp only [bf];omega
  ·simp [bI,bf]
theorem vN (plain:Bool) (pick kind va n:Int) (r:RunM):(aw plain pick r kind va n).1.looks.length<=r.looks.length+2:=by
 have h:=qI plain pick kind (cD va n) r;have hc:(cD va n).length<=2:=by unfold cD;split <;> simp
 unfold aw;split
 ·split
  ·omega
  ·simp only [bI];omega
 ·omega
theorem zJ {n:Nat} {c:Prop} [Decidable c] {a b:RunM} (ha:a.looks.length<=n) (hb:b.looks.length<=n):(if c then a else b).looks.length<=n:=by
 by_cases h:c
 ·rw [if_pos h];exact ha
 ·rw [if_neg h];exact hb
theorem DI (plain:Bool) (pick:Int) (r:RunM) (pc op a b c s x:Int):(doM plain pick r pc op a b c s x).looks.length<=r.looks.length+2:=by
 unfold doM ia fx lC;repeat' (with_reducible refine zJ ?_ ?_)
 all_goals first
  | exact Nat.le_add_right _ _
  | exact vN plain pick _ _ _ r
theorem sP (plain:Bool) (pick:Int) (h:HartM):(bT plain pick h).looks.length<=3:=by
 have h1:(cY plain pick (bx plain pick h)).looks.length<=3:=by
  unfold cY gE eT;repeat' (with_reducible refine zJ ?_ ?_)
  ·exact DI plain pick _ _ _ _ _ _ _ _
  all_goals simp [bI,bf,bx]
 unfold bT kX;exact zJ h1 h1
theorem yb (ps:List Int) (i:Nat) (hi:i<ps.length) (h:HartM) (gs:List ay):
 hU (ps.drop i) h gs i=if (aZ h (bT true ps[i] h).looks gs).1=true then hU (ps.drop (i+1)) (bT true ps[i] h).h (dX (bT true ps[i] h) (aZ h (bT true ps[i] h).looks gs).2) (i+1) else (false,i):=by
 rw [List.drop_eq_getElem_cons hi,hU]
section
open Go.RowKit Go.Maps
attribute [local go_sem ↓] Go.wp_at_zero Go.wp_at_succ
theorem Gi (va lv:Int) (hl:lv=0∨lv=1∨lv=2):(Lit.int .u64 (dP va lv)).wf=true:=by
 have:=pe va lv hl;exact WalkArith.wf_u64 (by omega)
theorem As (va asd lv:Int) (g:Bool) (hl:lv=0∨lv=1∨lv=2) (h0:0<=asd) (h1:asd<=65535):∃L,oH Tryz.prog (jI (jU lv (dP va lv) asd g))=some L:=by
 refine FX ?_ (Gi va lv hl) ?_
 ·exact WalkArith.wf_i64 (n:=lv) (by omega)
 ·cases g
  ·exact WalkArith.wf_u64 (n:=asd) (by omega)
  ·exact WalkArith.wf_u64 (n:=0) (by omega)
theorem Fo (m:List (cU × aP)) (rs:List aP) (va asd lv:Int) (g:Bool):
 jt m rs va asd lv g=((dR m (jU lv (dP va lv) asd g)).isSome && !decide ((dR m (jU lv (dP va lv) asd g)).getD (0,0,0)∈rs)):=by
 unfold jt;cases dR m (jU lv (dP va lv) asd g) <;> simp
theorem vu {m:List (cU × aP)} {rs:List aP} {va asd:Int} {l:Nat} {g:Bool} (hl:l<3) (h:jt m rs va asd l g=true):fW m rs va asd=false:=by
 unfold fW;have:l=0∨l=1∨l=2:=by omega
 rcases this with rfl | rfl | rfl <;> cases g <;> simp_all
theorem xU {m:List (cU × aP)} {rs:List aP} {va asd:Int} (h:∀l:Nat,l<3->∀g,jt m rs va asd l g=false):fW m rs va asd=true:=by
 have h0:=h 0 (by omega);have h1:=h 1 (by omega);have h2:=h 2 (by omega);unfold fW;simp only [Int.natCast_zero] at h0 h1 h2
 simp_all
theorem At (v:World) (r:aP):∃v',(Instr.storeAt 118 (PT v.heap.size 0) (nm r)).run Tryz.prog (v.alloc (Obj.cells #[VI 0,VU 0,VU 0] 118))=.ok () v'∧v'.heap[v.heap.size]?=some (.cells #[VI r.1,VU r.2.1,VU r.2.2] 118 (0,0))∧v.heap.size<v'.heap.size∧Bw v v':=by
 have a:=bF v #[VI 0,VU 0,VU 0] 118;refine ⟨_,aR (P:=Tryz.prog) (T:=118) a.1 (by kernel_rfl) rfl (by simp [Value.oneCell']),aI a.1 rfl,?_,aK nle _ _ _ a.2.2⟩;rw [cF,a.2.1];exact Nat.lt_succ_self _
theorem zD (mb n:Nat) (gm:List (cU × aP)) (a:Option Addr) (rc:Nat) (rs:List aP) (va asd:Int) (w:World) (hg:GMap w mb n gm) (hr:RowC w a rs.length 3 (cj rs)) (hn:rs.length<=3) (hv0:0<=va) (hv1:va<=18446744073709551615) (h0:0<=asd) (h1:asd<=65535):
 Calls Tryz.prog 165 #[.map (some mb),.slice a rs.length rc,VU va,VU asd] w fun e w'=>e=.returned (.bool (fW gm rs va asd))∧Bw w w':=by
 have HG:=hid hg;have HR:=hid hr;obtain ⟨X,hX⟩:∃X,fW gm rs va asd=X:=⟨_,rfl⟩;have HX:=hid hX;rw [hX];clear hX hg hr;go_enter Tryz.func165,Tryz.ntmps165;go_wp2;go_loopw [14] (fun i wr=>∃l:Nat,l<=3∧i=VI l∧Hid (∀l':Nat,l'<l->∀g,jt gm rs va asd l' g=false)∧Bw w wr) (fun i _=>3-(intOf i).toNat)
 case atStart=>exact ⟨0,by omega,rfl,fun l' h=>absurd h (by omega),brf⟩
 case round=>
  obtain ⟨l,hl,rfl,HL,nw⟩:=hrel;by_cases hlt:l<3
  ·have hl3:(l:Int)=0∨(l:Int)=1∨(l:Int)=2:=by omega
   have hlt':decide ((l:Int)<3)=true:=by simp;omega
   go_wp2_with fail;rename_i wr0;go_loopw [18] (fun i wr=>∃j:Nat,j<=2∧i=VI j∧Hid (∀g:Bool,(if g=true then 1 else 0)<j->jt gm rs va asd l g=false)∧Bw w wr) (fun i _=>2-(intOf i).toNat)
   case atStart=>exact ⟨0,by omega,rfl,fun g h=>absurd h (by omega),nw⟩
   case round=>
    obtain ⟨j,hj,rfl,HJ,nr⟩:=hrel;by_cases hjt:j<2
    ·obtain ⟨g,hgj⟩:∃g:Bool,j=if g=true then 1 else 0:=by
      rcases (show j=0∨j=1 by omega) with rfl | rfl
      ·exact ⟨false,rfl⟩
      ·exact ⟨true,rfl⟩
     obtain ⟨L,hL⟩:=As va asd l g hl3 h0 h1;have HK:=hid fun u (hu:Bw wr u)=>GMap.look ((HG.out.keep nr).keep hu) hL;have HC:=hid fun u=>mm l va asd g u hl3 hv0 hv1;have HM:=hid (Fo gm rs va asd l g);generalize jI (jU l (dP va l) asd g)=KV at HK HC;generalize dR gm (jU l (dP va l) asd g)=fd at HK HM;obtain ⟨⟨x1,x2,x3⟩,hR⟩:∃R,fd.getD (0,0,0)=R:=⟨_,rfl⟩;obtain ⟨f,hf⟩:∃f,fd.isSome=f:=⟨_,rfl⟩;rw [hR,hf] at HK HM;clear hR hf hL;have HJn:Hid (jt gm rs va asd l g=false->∀g':Bool,(if g'=true then 1 else 0)<j+1->jt gm rs va asd l g'=false):=fun h g' hg'=>by
      by_cases e:g'=g
      ·rw [e];exact h
      ·exact HJ.out g' (by cases g <;> cases g' <;> simp_all)
     have HIx:Hid (∀u,(Instr.index 291 (.agg #[.bool false,.bool true]) (VI j)).run Tryz.prog u=.ok (.bool g) u):=fun u=>by
      rw [hgj];cases g <;> kernel_rfl
     have hjt':decide ((j:Int)<2)=true:=by simp;omega
     have hix:=HIx.out;clear hgj;go_wp2_with fail;refine (HC.out wr).mono ?_;rintro e v1 ⟨rfl,n1⟩;have hlk:=HK.out v1 n1;obtain ⟨v3,hs3,P3,l3,n3⟩:=At v1 (x1,x2,x3);have HS3:=hid hs3;have n4:=bst n1 n3;clear hs3;cases f
     ·have HN:Hid (jt gm rs va asd l g=false):=by show _=_;rw [HM.out];rfl
      go_upto_region 8 with (first | ((with_reducible refine az ?_ ?_ HS3.out ?_);(exact rfl);(exact rfl)));go_wp2;go_roundw
      case rel=>exact ⟨j+1,by omega,by go_num,HJn.out HN.out,bst nr n4⟩
      case measure=>simp [intOf];omega
     ·go_upto_region 8 with (first | ((with_reducible refine az ?_ ?_ HS3.out ?_);(exact rfl);(exact rfl)));obtain ⟨⟨d0,d1,d2⟩,f0,f1,f2⟩:=aF P3;have CN:=hid (we a rc rs (x1,x2,x3) v3 (HR.out.keep (bst nr n4)) hn);simp only [Bool.true_and] at HM;clear P3 hlk;generalize decide ((x1,x2,x3)∈rs)=dd at CN HM;go_wp2_with fail;refine Calls.mono CN.out ?_;rintro e v4 ⟨rfl,n5⟩;have n6:=bst n4 n5;cases dd
      ·go_wp2;go_ret;exact ⟨by rw [<-HX.out,vu hlt HM.out];rfl,bst nr n6⟩
      ·go_wp2;go_roundw
       case rel=>exact ⟨j+1,by omega,by go_num,HJn.out HM.out,bst nr n6⟩
       case measure=>simp [intOf];omega
    ·have hin:j=2:=by omega
     subst hin;go_wp2;go_roundw
     case rel=>
      refine ⟨l+1,by omega,by go_num,fun l' hl' g=>?_,nr⟩;by_cases e:l'=l
      ·rw [e];exact HJ.out g (by cases g <;> simp)
      ·exact HL.out l' (by omega) g
     case measure=>simp [intOf];omega
  ·have hin:l=3:=by omega
   subst hin;go_wp2;go_ret;exact ⟨by rw [<-HX.out,xU HL.out];rfl,nw⟩
theorem BG (va asd:Int) (rs:List aP) (gm:List (cU × aP)) (j:Nat) (r:aP) (h:rs[j]?=some r):jw va asd (rs.take (j+1)) gm=oT (jw va asd (rs.take j) gm) (jU r.1 (dP va r.1) asd (bJ r.2.2 32)) r:=by
 induction rs generalizing gm j with
 | nil=>simp at h
 | cons x xs ih=>
  cases j with
  | zero=>
   simp at h;subst h;simp [jw]
  | succ j=>
   simp only [List.take_succ_cons,jw];exact ih _ j (by simpa using h)
theorem DB {ops:Array Oper} {rest:List Oper} {o:Oper} {a:Act} {Q:Exit->Act->World->Prop} {w:World} {b n:Nat} {gm:List (cU × aP)} {k:cU} {L:Lit} {r:aP} (hg:o.guard=none) (m x v:Operand) (hop:o.op=Op.mapUpdate 63 m x v)
 (hm:a.eval m=.map (some b)) (hx:a.eval x=jI k) (hv:a.eval v=nm r) (h:GMap w b n gm) (hn:n<1048576) (hk:oH Tryz.prog (jI k)=some L) (hl:k.1=0∨k.1=1∨k.1=2)
 (hK:∀w',GMap w' b (n+1) (oT gm k r)->w.grownBy w' (some b)->wpList Tryz.prog ops Q rest (a.put o.dst undef) w'):wpList Tryz.prog ops Q (o::rest) a w:=by
 refine wpList_plain hg fun K' hK'=>?_;obtain ⟨w',hrun,r1,r2⟩:=h.put hn hk hl r;unfold Oper.wp;simp [execOp,hop,hm,hx,hv,hrun,Result.andThen];exact hK' _ _ (hK w' r1 r2)
theorem Hq {v:World} {b i:Nat} {s:Int} (h:v.cell? (AD b i)=some (VU s)):(Instr.loadAt 33 (PT b i)).run Tryz.prog v=.ok (VU s) v:=by go_simp
theorem Hr {v:World} {b i:Nat} {s:Int} (h:v.cell? (AD b i)=some (VI s)):(Instr.loadAt 2 (PT b i)).run Tryz.prog v=.ok (VI s) v:=by go_simp
theorem RowC.map {w w':World} {a:Option Addr} {n size mb:Nat} {cs:List Value} {es:Array MapEntry} {c:Nat} (h:RowC w a n size cs) (hs:0<size) (hb:w.heap[mb]?=some (.map es c)) (hg:w.grownBy w' (some mb)):RowC w' a n size cs:=by
 obtain ⟨h1,h3⟩:=h;refine ⟨h1,?_⟩;rcases h3 with h3 | ⟨b,off,e,lt,hc⟩
 ·exact .inl h3
 ·by_cases hn:n=0
  ·exact .inl hn
  ·refine .inr ⟨b,off,e,ltl lt hg.size,fun i v hv=>?_⟩;have hne:b≠mb:=by
    rintro rfl;have h0:0<cs.length:=by rw [h1];exact Nat.mul_pos (by omega) hs
    have:=hc 0 _ (geg h0);simp [World.cell?,hb] at this
   have e1:=hg.block b lt (by simpa using hne);have:=hc i v hv;unfold World.cell? at this |-;simp only [e1];exact this
theorem Fp (mb n:Nat) (gm:List (cU × aP)) (a:Option Addr) (rc:Nat) (rs:List aP) (va asd:Int) (w:World) (hg:GMap w mb n gm) (hn:n+3<1048576) (hr:RowC w a rs.length 3 (cj rs)) (hrn:rs.length<=3) (hrl:∀r∈rs,(r.1=0∨r.1=1∨r.1=2)∧0<=r.2.2∧r.2.2<=18446744073709551615) (hv0:0<=va) (hv1:va<=18446744073709551615) (h0:0<=asd) (h1:asd<=65535):
 Calls Tryz.prog 168 #[.map (some mb),.slice a rs.length rc,VU va,VU asd] w fun e w'=>e=.returned (.tuple #[])∧GMap w' mb (n+rs.length) (jw va asd rs gm)∧w.grownBy w' (some mb):=by
 have HG:=hid hg;have HR:=hid hr;have HL:=hid hrl;clear hg hr hrl;go_enter Tryz.func168,Tryz.ntmps168;go_wp2;go_loopw [12] (fun i wr=>∃k:Nat,k<=rs.length∧i=VI k∧GMap wr mb (n+k) (jw va asd (rs.take k) gm)∧w.grownBy wr (some mb)∧RowC wr a rs.length 3 (cj rs)) (fun i _=>rs.length-(intOf i).toNat)
 case atStart=>exact ⟨0,Nat.zero_le _,rfl,HG.out,ao _ _,HR.out⟩
 case round=>
  obtain ⟨k,hk,rfl,kg,gw,kr⟩:=hrel;have KG:=hid kg;have KR:=hid kr;clear kg kr;by_cases hlt:k<rs.length
  ·obtain ⟨⟨x1,x2,x3⟩,hs⟩:∃s,rs[k]?=some s:=⟨_,geg hlt⟩;obtain ⟨b,off,rfl⟩:=mn KR.out (by omega);obtain ⟨hb,c0,c1,c2⟩:=mQ KR.out hs;obtain ⟨hl3,hx0,hx1⟩:=HL.out _ (List.mem_of_getElem? hs);have HS:=hid hs;have HP:=hid (BG va asd rs gm k _ hs);have hlt':decide ((k:Int)<(rs.length:Int))=true:=by simp;omega
   obtain ⟨v1,hs1,P1,l1,n1⟩:=At wr (x1,x2,x3);have HS1:=hid hs1;clear hs hs1;simp only at c0 c1 c2 hl3 hx0 hx1 HP P1;go_upto_region 3 with (first | ((with_reducible refine az ?_ ?_ HS1.out ?_);(exact rfl);(exact rfl)));simp only [Act.put];clear c0 c1 c2 HS1;obtain ⟨g5,hg5⟩:∃g5,bJ x3 32=g5:=⟨_,rfl⟩;have HB:Hid (∀w,Calls Tryz.prog 129 #[VU x3,VU 32] w fun e w'=>e=.returned (.bool g5)∧w'=w):=fun w=>by
    have:=dB x3 32 w;rw [dI 5 x3 32 rfl (by omega) hx0 hx1,hg5] at this;exact this
   rw [hg5] at HP;clear hg5;obtain ⟨L,hL⟩:=As va asd x1 g5 hl3 h0 h1;have HLt:=hid hL;have HC:=hid fun u=>mm x1 va asd g5 u hl3 hv0 hv1;have HKl:Hid ((jU x1 (dP va x1) asd g5).1=x1):=by show _=_;rfl
   generalize jU x1 (dP va x1) asd g5=KK at HLt HC HP HKl;clear hL;have P1':=hid P1;have HL1:=hid fun u (hu:Bw v1 u)=>Hr (ab (ah P1' hu).out 0 (v:=VI x1) rfl);have HL3:=hid fun u (hu:Bw v1 u)=>Hq (ab (ah P1' hu).out 2 (v:=VU x3) rfl);have HLw:=hid fun u (hu:Bw v1 u)=>aW (P:=Tryz.prog) (T:=118) (ah P1' hu).out Tryz.underlying118 rfl (by kernel_rfl);have hF:=bdr v1;refine ax (Bw v1) 10 ?_;refine aj 0 16 (.map (some mb)) rfl hF ?_;refine aj 1 17 (PT wr.heap.size 0) rfl hF ?_
   go_frame
   refine aj 2 18 (VI x1) rfl hF ?_ (hy:=fun u hu=>aD rfl (HL1.out u hu));refine aj 3 19 (VU va) rfl hF ?_;refine aj 4 20 (VU asd) rfl hF ?_;refine aj 5 21 (PT wr.heap.size 2) rfl hF ?_
   go_frame
   refine aj 6 22 (VU x3) rfl hF ?_ (hy:=fun u hu=>aD rfl (HL3.out u hu))
   go_frame
   refine aj 9 25 _ rfl hF ?_ (hy:=fun u hu=>aD rfl (HLw.out u hu))
   go_frame
   refine du 7 23 rfl ((HB.out _).mono ?_);rintro e v2 ⟨rfl,rfl⟩;refine ⟨_,rfl,fun _=>hF,?_⟩
   go_frame
   refine du 8 24 rfl ((HC.out _).mono ?_);rintro e v3 ⟨rfl,n3⟩;have b3:=bst hF n3;refine ⟨_,rfl,fun _=>b3,?_⟩
   go_frame
   refine kB 10 rfl ?_;have n13:=bst n1 b3;have KG3:=hid (KG.out.keep n13);obtain ⟨es,cl,hmb⟩:=KG3.out.blk;have KR3:=hid (KR.out.keep n13);refine DB (n:=n+k) (r:=(x1,x2,x3)) rfl (.tmp 16) (.tmp 24) (.tmp 25) rfl rfl rfl rfl KG3.out (by omega) HLt.out (by rw [HKl.out];exact hl3) ?_;intro v4 g4 b4;have KR4:=hid (KR3.out.map (by omega) hmb b4);have GW:Hid (w.grownBy v4 (some mb)):=(gw.andThen (row':=none) (World.grownBy.but ⟨n13.os,n13.tape,n13.output,n13.size,fun i hi _=>n13.block i hi⟩ _) (fun j hj=>by cases hj)).andThen b4 (fun j hj=>.inr hj);have G4:=hid g4;clear g4 b4
   go_frame
   go_wp2;go_roundw
   case rel=>exact ⟨k+1,by omega,by go_num,by rw [HP.out];exact G4.out,GW.out,KR4.out⟩
   case measure=>simp [intOf];omega
  ·have hin:k=rs.length:=by omega
   subst hin;have hlt':decide ((rs.length:Int)<(rs.length:Int))=false:=by simp
   go_wp2_with fail;rw [List.take_length] at KG;exact ⟨rfl,.tuple #[],by kernel_rfl,rfl,KG.out,gw⟩
end
section
open Go.RowKit Go.Maps
attribute [local go_sem ↓] Go.wp_at_zero Go.wp_at_succ
theorem EV (X:Nat->Prop) (cv:Value) (f:FenceM) (k:cU) (r:aP) (pc:Nat) (w:World) (hC:CovFree X w cv f) (hp:w.heap[pc]?=some (.cells #[cv] 196 (0,0))) (hl:k.1=0∨k.1=1∨k.1=2) (hf:inU f.va):
 Calls Tryz.prog 162 #[jI k,nm r,PT pc 0] w fun e w'=>e=.returned (.bool (fK f k))∧Bw w w':=by
 obtain ⟨lv,tg,asd,gl⟩:=k;obtain ⟨v1,Ev1,n1,H1,H2,l1⟩:=al2 w #[VI lv,VU tg,VU asd,.bool gl] #[VI r.1,VU r.2.1,VU r.2.2] 214 118;have cp:v1.cell? (AD pc 0)=some cv:=ab (ae hp n1 (hpl hp)) 0 rfl;obtain ⟨⟨d0,d1,d2,d3⟩,_⟩:=aO H1.out;obtain ⟨hv,fva,ha,fa⟩:=f;rcases hC with ⟨h1,h2,rfl⟩ | ⟨h1,pf,pv,rfl,xf,xv,hF,hV⟩
 ·rw [show fK ⟨hv,fva,ha,fa⟩ (lv,tg,asd,gl)=false from ze _ _ _ _ _ h1 h2];clear hp h1 h2 hf;go_enter Tryz.func162,Tryz.ntmps162;go_upto_region 1 with fail;rw [Ev1.out];clear Ev1;go_wp2_with fail;refine (rQ lv tg asd gl v1).mono ?_;rintro e v2 ⟨rfl,n2⟩;go_wp2;go_ret;exact ⟨rfl,bst n1 n2⟩
 ·obtain ⟨cb,hcb⟩:∃cb,fK ⟨hv,fva,ha,fa⟩ (lv,tg,asd,gl)=cb:=⟨_,rfl⟩;have HC:=hid (rR hv fva ha fa lv tg asd gl pf pv v1 hl hf.1 hf.2 (ae hF n1 (hpl hF)) (ae hV n1 (hpl hV)));rw [qy _ _ _ _ _ h1,show eD ⟨hv,fva,ha,fa⟩ lv tg asd gl=cb from hcb] at HC;rw [hcb];clear hp h1 hF hV hcb hf;go_enter Tryz.func162,Tryz.ntmps162;go_upto_region 1 with fail;rw [Ev1.out];clear Ev1;go_wp2_with fail;refine Calls.mono HC.out ?_;rintro e v2 ⟨rfl,n2⟩;go_wp2;go_ret;exact ⟨rfl,bst n1 n2⟩
structure KB where
 k:cU
structure RB where
 r:aP
theorem jK {w w':World} (h:Bw w w'):w.grownBy w' none:=⟨h.os,h.tape,h.output,h.size,fun i hi _=>h.block i hi⟩
theorem xq (X:Nat->Prop) (cv:Value) (f:FenceM) (pc mb n:Nat) (gm:List (cU × aP)) (w:World) (hG:GMap w mb n gm) (hX:X mb) (hC:CovFree X w cv f) (hp:w.heap[pc]?=some (.cells #[cv] 196 (0,0))) (hf:inU f.va):
 Calls Tryz.prog 161 #[.map (some mb),.func (.func 162) #[] #[PT pc 0]] w fun e w'=>e=.returned (.tuple #[])∧GMap w' mb n (mX gm (fK f))∧w.grownBy w' (some mb):=by
 have hpm:pc≠mb:=by
  obtain ⟨es,c,h⟩:=hG.blk;rintro rfl;rw [hp] at h;cases h
 have HD:Hid (∀(W:World) (k:cU) (r:aP),w.grownBy W (some mb)->(k.1=0∨k.1=1∨k.1=2)->Calls Tryz.prog 162 #[jI k,nm r,PT pc 0] W fun e w'=>e=.returned (.bool (fK f k))∧Bw W w'):=fun W k r hg hl=>
  EV X cv f k r pc W (hC.kp (Kp.of_gb hg hX)) (aA hp hg hpm) hl hf
 obtain ⟨D,hown,R,V⟩:=hG;have lm:=hown.lt;obtain ⟨es0,rfl,hap,hkeys⟩:=hown.entries lq;have HAP:=hid hap;have HR:=hid R;have HV:=hid V;clear hC hp hf R V hap;generalize fK f=cov at HD |-;obtain ⟨fl,hfl⟩:=Ez cov;go_enter Tryz.func161,Tryz.ntmps161;go_wp2_with (first
  | (at_range;refine wpList_range_own _ rfl _ 63 rfl 214 118 lq Tryz.underlying63 wB mb n _ rfl hown ?_;intro w0 hrg0 hg0 hs0)
  | go_in)
 go_frame
 go_loopw [8] (fun _ wr=>∃(left:Lit->Bool) (cnt:Nat),wr.ranges Tryz.prog 214 wB mb w.heap.size n (Fk fl es0 left) left cnt∧w.grownBy wr (some mb)) (fun _ wr=>wr.rangeLeft mb w.heap.size)
 case atStart=>exact ⟨_,_,by rw [Fk_start hkeys];exact hrg0,hg0.but _⟩
 case round=>
  obtain ⟨left,cnt,hrg,hgw⟩:=hrel;go_wp2_with (first
   | (at_next;refine wpList_next_ranges _ rfl _ rfl 214 lq wB (fun x:KB=>jI x.k) (fun x:RB=>nm x.r) (fun key _ hk=>let ⟨k,e⟩:=Ey hk;⟨⟨k⟩,e⟩) (fun v _ hv=>let ⟨r,e,_⟩:=wC hv;⟨⟨r⟩,e⟩) mb w.heap.size n _ _ _ rfl hrg ?_ ?_)
   | go_in)
  ·intro _ hl0;go_wp2_with fail;refine ⟨rfl,.tuple #[],by kernel_rfl,rfl,⟨_,hrg.owns,?_,?_⟩,hgw⟩
   ·rw [Fk_end hl0];exact HR.out.del ⟨_,rfl⟩ cov hfl
   ·intro k r hr;rw [js] at hr;split at hr
    ·cases hr
    ·exact HV.out k r hr
  ·rintro ⟨⟨x1,x2,x3,x4⟩⟩ ⟨⟨c1,c2,c3⟩⟩ kl yd yp w1 cnt1 hkey hlx hv hat hrg1 hlt hg1 hs1 hen;simp only at hkey hv hen |-;clear hs1;have hgw1:=hgw.andThen hg1 (fun j hj=>by cases hj;exact Or.inl (Nat.le_refl _));have hlev:x1=0∨x1=1∨x1=2:=by
    have h1:=has_true_of_atKey hat;have h2:has (.map es0) kl=true:=by
     obtain ⟨p,hp,hk⟩:=List.any_eq_true.1 h1;exact List.any_eq_true.2 ⟨p,(List.mem_filter.1 hp).1,hk⟩
    rw [(HR.out (x1,x2,x3,x4) kl hkey).1] at h2;obtain ⟨r,hr⟩:=Option.isSome_iff_exists.1 h2;exact HV.out (x1,x2,x3,x4) r hr
   have hp:fl kl yd=cov (x1,x2,x3,x4):=hfl _ _ _ hkey;obtain ⟨v2,Ev2,n2,K2,R2,l2⟩:=al2 w1 #[VI x1,VU x2,VU x3,.bool x4] #[VI c1,VU c2,VU c3] 214 118;have hc:=hid (HD.out v2 (x1,x2,x3,x4) (c1,c2,c3) (hgw1.andThen (jK n2) (fun j hj=>by cases hj)) hlev);have hrg2:=hrg1.kept (jK n2) (by simp) (by simp);have hgw2:=hgw1.andThen (jK n2) (fun j hj=>by cases hj);go_upto_region 3 with fail;rw [Ev2.out];clear Ev2 hen;obtain ⟨⟨d0,d1,d2,d3⟩,_⟩:=aO K2.out;obtain ⟨⟨r0,r1,r2⟩,_⟩:=aF R2.out;have K2':=hid K2;cases hcv:cov (x1,x2,x3,x4)
   ·rw [hcv] at hc hp;have HPf:=hid hp;have HAt:=hid hat;clear hp hat hcv;go_wp2_with fail;refine Calls.mono hc.out ?_;rintro e v3 ⟨rfl,n3⟩;have hrg3:=hrg2.kept (jK n3) (by simp) (by simp);go_wp2;go_roundw
    case rel=>exact ⟨_,cnt1,by rw [<-Fk_stays HAP.out (lq.key hkey) hlx HPf.out HAt.out];exact hrg3,hgw2.andThen (jK n3) (fun j hj=>by cases hj)⟩
    case measure=>rw [hrg3.left_eq,hrg.left_eq];exact hlt
   ·rw [hcv] at hc hp;have HPf:=hid hp;have HAt:=hid hat;clear hp hat hcv;go_wp2_with fail;refine Calls.mono hc.out ?_;rintro e v3 ⟨rfl,n3⟩;have hrg3:=hrg2.kept (jK n3) (by simp) (by simp);have hgw3:=hgw2.andThen (jK n3) (fun j hj=>by cases hj);obtain ⟨⟨e0,e1,e2,e3⟩,_⟩:=aO (ah K2' n3).out;go_wp2_with (first
     | (at_delete;refine wpList_delete_ranges _ rfl _ _ 63 214 rfl 118 lq Tryz.underlying63 wB mb w.heap.size n _ _ _ rfl hrg3 _ _ rfl hkey ?_;intro w3 cnt3 hrg4 hle hturn;go_frame)
     | go_in)
    rw [strike_twice] at hrg4;go_roundw
    case rel=>exact ⟨_,cnt3,by rw [<-Fk_struck HAP.out (lq.key hkey) hlx HPf.out HAt.out];exact hrg4,hgw3.andThen hturn.grown (fun j hj=>by cases hj;exact Or.inr rfl)⟩
    case measure=>rw [hrg4.left_eq,hrg.left_eq];omega
theorem zm (X:Nat->Prop) (cv:Value) (f:FenceM) (mb n:Nat) (gm:List (cU × aP)) (w:World) (hG:GMap w mb n gm) (hX:X mb) (hxn:¬X w.heap.size) (hC:CovFree X w cv f) (hf:inU f.va):
 Calls Tryz.prog 157 #[.map (some mb),cv] w fun e w'=>e=.returned (.tuple #[])∧GMap w' mb n (mX gm (fK f))∧w.grownBy w' (some mb):=by
 obtain ⟨v1,Ev1,n1,H1,l1⟩:=al1 w #[cv] 196;have HC:=hid (xq X cv f w.heap.size mb n gm v1 (hG.keep n1) hX (hC.kp (Kp.of_below X n1)) H1.out hf);have lm:=hG.lt;have sh:(∃g cs,cv=.func (.func g) #[] cs):=by
  rcases hC with ⟨_,_,rfl⟩ | ⟨_,_,_,rfl,_⟩
  ·exact ⟨_,_,rfl⟩
  ·exact ⟨_,_,rfl⟩
 obtain ⟨g,cs,rfl⟩:=sh;clear hG hC H1;go_enter Tryz.func157,Tryz.ntmps157;go_upto_region 1 with fail;rw [Ev1.out];clear Ev1;go_wp2_with fail;refine Calls.mono HC.out ?_;rintro e v2 ⟨rfl,hg,hgb⟩;have G:Hid (w.grownBy v2 (some mb)):=(World.grownBy.but (jK n1) (some mb)).andThen hgb (fun j hj=>.inr hj);have GG:=hid hg;clear hg hgb;go_wp2_with fail;exact ⟨rfl,.tuple #[],by kernel_rfl,rfl,GG.out,G.out⟩
end
def ShK (k k':KM):Prop:=(k'.i.es.length=k.i.es.length∧k'.i.sets=k.i.sets∧k'.i.ways=k.i.ways)∧(k'.d.es.length=k.d.es.length∧k'.d.sets=k.d.sets∧k'.d.ways=k.d.ways)∧(k'.p.es.length=k.p.es.length∧k'.p.sets=k.p.sets∧k'.p.ways=k.p.ways)
theorem ShK.refl (k:KM):ShK k k:=⟨⟨rfl,rfl,rfl⟩,⟨rfl,rfl,rfl⟩,⟨rfl,rfl,rfl⟩⟩
theorem ShK.set {k k':KM} (h:ShK k k') (gi gd gp:Nat):gX k' gi gd gp=gX k gi gd gp:=by
 obtain ⟨⟨h1,h2,h3⟩,⟨h4,h5,h6⟩,h7,h8,h9⟩:=h;simp only [gX,h1,h2,h3,h4,h5,h6,h7,h8,h9]
theorem rU (zs:List Int) (mode:Int) (sum mxr:Bool) (satp:Int) (k:KM) (kind va pick:Int) (hg:cz k=true) (hk:0<=kind∧kind<=2) (hm:0<=mode∧mode<=2) (hp:0<=pick∧pick<=255):ShK k (bZ zs mode sum mxr satp k kind va pick).2:=by
 unfold bZ;rw [if_neg (by rw [hg];simp;omega)];split
 ·exact ShK.refl k
 ·split
  ·exact ShK.refl k
  ·split
   ·exact ShK.refl k
   ·simp only;have hp':=sd va satp pick (aX zs satp va (bX k.p va (aN satp))).2.2.2 k.p;split
    ·unfold vU eY;by_cases h0:kind=0
     ·simp only [if_pos h0];exact ⟨kH _ _ _,⟨rfl,rfl,rfl⟩,hp'⟩
     ·simp only [if_neg h0];exact ⟨⟨rfl,rfl,rfl⟩,kH _ _ _,hp'⟩
    ·exact ⟨⟨rfl,rfl,rfl⟩,⟨rfl,rfl,rfl⟩,hp'⟩
theorem wY {h:HartM} (hh:HOk h) (plain:Bool) {pick kind va:Int} (hp:0<=pick∧pick<=255) (hk:0<=kind∧kind<=2):ShK h.k (aT plain pick h kind va).2:=by
 cases plain
 ·exact rU _ _ _ _ _ _ _ _ _ hh.v.ks hk hh.v.mode hp
 ·exact ShK.refl _
theorem xd (k:KM) (f:FenceM):ShK k (iT k f):=by
 have h:∀t:TlbM,(gW t f).es.length=t.es.length∧(gW t f).sets=t.sets∧(gW t f).ways=t.ways:=fun t=>by
  unfold gW;split
  ·simp
  ·exact ⟨rfl,rfl,rfl⟩
 exact ⟨h k.i,h k.d,h k.p⟩
theorem xe (plain:Bool) (pick:Int) (k:KM):ShK k (eR plain pick k):=by
 unfold eR;split
 ·exact ⟨by simp [bh],by simp [bh],by simp [bh]⟩
 ·exact ShK.refl k
theorem Bh (kind:Int):eU kind≠0:=by unfold eU;split;omega;split <;> omega
theorem eX (kind:Int):bO kind≠0:=by unfold bO;split;omega;split <;> omega
section
variable {P:Program} {ops:Array Oper} {md:Region.Mode} {C:World->Prop}
def HeadQ (P:Program) (md:Region.Mode) (ops:Array Oper) (C:World->Prop) (n:Nat) (L:Array Bool->Act->Prop):Nat->Array Bool->Act->Prop
 | 0,s,a=>L s a
 | f+1,s,a=>Region.ready md ops s≠[]∧∀i∈Region.ready md ops s,i<n∧qOp P ops C i (HeadQ P md ops C n L f (s.setIfInBounds i true)) a
theorem HeadQ.any {n g:Nat} {L:Array Bool->Act->Prop} {Q:Exit->Act->World->Prop} (hL:∀s a w,C w->L s a->wpAny P md ops Q g s a w):
 ∀(f:Nat) (s:Array Bool) (a:Act) (w:World),C w->HeadQ P md ops C n L f s a->wpAny P md ops Q (f+g) s a w
 | 0,s,a,w,hw,h=>by
  rw [Nat.zero_add];exact hL s a w hw h
 | f+1,s,a,w,hw,h=>by
  have e:f+1+g=(f+g)+1:=by omega
  rw [e];refine ⟨fun h0=>(h.1 h0).elim,fun i hi=>?_⟩;exact wpOp_of_qOp hw (fun a' w' hw' h'=>HeadQ.any hL f _ a' w' hw' h') (h.2 i hi).2
theorem HeadQ.first {n i:Nat} {o:Oper} {v:Value} {L:Array Bool->Act->Prop} (ho:ops[i]?=some o) (ns:Region.noSelect ops=true) (hs:Region.sinkB md ops n=true) (hc:Region.chainB md ops n=true) (hn:n<ops.size) (hin:i<n)
 (hd:∀s a,L s a->∀j∈Region.ready md ops s,n<=j) (f:Nat):∀(s:Array Bool) (a:Act),HeadInv md ops n s->
  (∀j oj,ops[j]?=some oj->j≠i->s.getD j true=false->(∀e∈oj.after,Region.binds md e=true->e.on≠i)->o.apart ops oj=true)->
  i∈Region.ready md ops s->YieldsIn P ops C o v a->HeadQ P md ops C n L f (s.setIfInBounds i true) (a.put o.dst v)->HeadQ P md ops C n L (f+1) s a:=by
 have sel:=Region.noSelect_spec ns
 induction f with
 | zero=>
  intro s a inv _ hr hy H;refine ⟨fun h=>(by rw [h] at hr;cases hr),fun j hj=>?_⟩;have hjn:=Nat.lt_of_not_le fun h=>tail_waits hs hc hn inv _ i rfl hin (mem_ready.1 hr).1 j h hj;refine ⟨hjn,?_⟩;by_cases hji:j=i
  ·subst hji;exact YieldsIn.qOp ho hy H
  ·exact absurd (hd _ _ H j (ready_mono hj hji)) (by omega)
 | succ f ih=>
  intro s a inv hfree hr hy H;refine ⟨fun h=>(by rw [h] at hr;cases hr),fun j hj=>?_⟩;have hun:=(mem_ready.1 hr).1;have hjn:=Nat.lt_of_not_le fun h=>tail_waits hs hc hn inv _ i rfl hin hun j h hj;refine ⟨hjn,?_⟩;by_cases hji:j=i
  ·subst hji;exact YieldsIn.qOp ho hy H
  obtain ⟨hjun,oj,hoj,hall⟩:=mem_ready.1 hj;have hno:∀e∈oj.after,Region.binds md e=true->e.on≠i:=fun e he hb heq=>by
   have:=hall e he hb;rw [heq,getD_both hun] at this;cases this
  refine qOp_mono (fun a' h3=>?_) (qOp_put hoj (hfree j oj hoj hji hjun hno) (fun cs b=>sel i o cs b ho) (fun cs b=>sel j oj cs b hoj) hy (H.2 j (ready_mono hj hji)).2);refine ih (s.setIfInBounds j true) a' (inv.set hj hjn) (fun k ok hk hki hku hkn=>?_) (ready_mono hr (Ne.symm hji)) h3.1 ?_
  ·refine hfree k ok hk hki ?_ hkn;by_cases hjk:j=k
   ·rw [<-hjk];exact hjun
   ·rwa [getD_set_ne true hjk] at hku
  ·rw [Array.setIfInBounds_comm _ _ hji];exact h3.2
theorem HeadQ.lex {n g:Nat} {L:Act->Prop} (ns:Region.noSelect ops=true) (hs:Region.sinkB md ops n=true) (hc:Region.chainB md ops n=true) (hn:n<ops.size):
 ∀(l:List Oper) (k:Nat) (s:Array Bool) (a:Act),(∀j,j<l.length->l[j]?=ops[k+j]?)->k+l.length=n->HeadInv md ops n s->Region.lexHead md ops g l.length k s=true->wpQuiet P ops C L l a->
  HeadQ P md ops C n (fun s' a'=>Region.seqB md ops g n s'=true∧L a') l.length s a
 | [],k,s,a,_,hk,_,hB,h=>by
  obtain rfl:k=n:=by simpa using hk
  exact ⟨by simpa [Region.lexHead] using hB,h⟩
 | o::l,k,s,a,hl,hk,inv,hB,h=>by
  rw [List.length_cons] at hk;have h0:ops[k]?=some o:=by simpa using (hl 0 (by simp)).symm
  simp only [List.length_cons,Region.lexHead,Bool.and_eq_true] at hB;have hr:k∈Region.ready md ops s:=by simpa using hB.1.1
  have hq:qOp P ops C k (wpQuiet P ops C L l) a:=by
   unfold qOp;simp only [h0];exact h
  obtain ⟨v,hy,hK⟩:=yieldsIn_of_qOp h0 hq;refine HeadQ.first h0 ns hs hc hn (by omega) (fun s' a' hL=>seqB_ready hL.1) l.length s a inv (Region.free_spec h0 hB.1.2) hr hy ?_;refine HeadQ.lex ns hs hc hn l (k+1) _ _ (fun j hj=>?_) (by omega) (inv.set hr (by omega)) hB.2 hK;have:=hl (j+1) (by simp;omega);simpa [Nat.add_assoc,Nat.add_comm 1 j] using this
theorem qV {id:Nat} {Q:Exit->Act->World->Prop} {a:Act} {w:World} {l:List Oper} (n:Nat) (hm:P.follows .mixedOrders=true) (hB:Region.lexTailB .any l.toArray n=true) (hC:C w.drew)
 (h:wpQuiet P l.toArray C (fun a'=>∀w',C w'->wpList P l.toArray Q (l.drop n) a' w') (l.take n) a):(Code.region id l.toArray true).wp P Q a w:=by
 simp only [Region.lexTailB,Bool.and_eq_true,decide_eq_true_eq] at hB;obtain ⟨⟨⟨⟨ns,hn⟩,hs⟩,hc⟩,hx⟩:=hB;have hn':n<l.length:=by simpa using hn
 have e1:(l.take n).length=n:=by simp;omega
 have e2:(l.drop n).length=l.toArray.size-n:=by simp
 have i0:HeadInv .any l.toArray n (Array.replicate l.toArray.size false):=
  ⟨by simp,fun j oj _ hl=>(by rw [getD_replicate_false] at hl;cases hl),fun t _ ht=>getD_in (by simpa using ht) (getD_replicate_false _ _)⟩
 have hl:=HeadQ.lex (P:=P) (C:=C) (g:=l.toArray.size-n) ns hs hc hn (l.take n) 0 (Array.replicate l.toArray.size false) a (fun j hj=>by
  rw [e1] at hj;simp [hj]) (by rw [e1];omega) i0 (by rw [e1];exact hx) h
 rw [e1] at hl;refine wp_region_any hm ?_;have:=HeadQ.any (Q:=Q) (g:=l.toArray.size-n) (C:=C) (fun s a' w' hw' hL=>by
  have q:=wpAny_of_seq (P:=P) (Q':=Q) (l.drop n) n s a' w' (fun j=>by simp [List.getElem?_drop]) (by rw [e2];exact hL.1) (hL.2 w' hw');rw [e2] at q;exact q) n _ a w.drew hC hl
 rw [show n+(l.toArray.size-n)=l.toArray.size by simp;omega] at this;exact this
end
theorem lA {P:Program} {id:Nat} {Q:Exit->Act->World->Prop} {a:Act} {w:World} {l:List Oper} (n:Nat) (hm:P.follows .mixedOrders=true) (hB:Region.lexTailB .any l.toArray n=true)
 (h:wpQuiet P l.toArray (fun w'=>∃u:Lies w,w'=u.w) (fun a'=>∀w',(∃u:Lies w,w'=u.w)->wpList P l.toArray Q (l.drop n) a' w') (l.take n) a):(Code.region id l.toArray true).wp P Q a w:=
 qV n hm hB ⟨⟨w.drew,(brf).drew⟩,rfl⟩ h
def vL (o:Oper):Bool:=
 match o.op with
 | .move _ | .assign _ | .load _ _ | .fieldAddr _ _ _ | .field _ _ _ | .binOp _ _ _ _ _ | .unOp _ _ _ | .convert _ _ _ | .extract _ _ | .makeInterface _ _ | .build _ _ | .indexAddr _ _ _ | .nilCheck _ | .slice _ _ _ _ _ | .sliceToArrayPointer _ _=>true
 | _=>false
theorem BO {P:Program} {s:Sem Value} {w w':World} {n:Next} (h:(do pure (.value (<-s)):Sem Next).run P w=.ok n w'):∃v,n=.value v:=by
 simp only [Sem.run_bind,Sem.run_pure] at h;generalize s.run P w=r at h;cases r with
 | ok x w1=>
  simp only [Result.andThen_ok,Result.ok.injEq] at h;exact ⟨x,h.1.symm⟩
 | halt x w1=>simp [Result.andThen] at h
theorem sL {P:Program} {ρ:Operand->Value} {o:Oper} {w w':World} {n:Next} (hp:vL o=true) (h:(execOp ρ o).run P w=.ok n w'):∃v,n=.value v:=by
 unfold vL at hp;unfold execOp at h;obtain ⟨dst,op,ty,pos,af,gd⟩:=o;cases op;all_goals first
  | (cases hp;done)
  | exact BO h
  | (simp only [Sem.run_pure,Result.ok.injEq] at h;exact ⟨_,h.1.symm⟩)
  | skip
 rename_i x;simp only at h;split at h;all_goals first
  | (simp only [Sem.run_pure,Result.ok.injEq] at h;exact ⟨_,h.1.symm⟩)
  | (exfalso;revert h;simp [runtimePanic,go_sem];done)
  | skip
 split at h;all_goals first
  | (simp only [Sem.run_pure,Result.ok.injEq] at h;exact ⟨_,h.1.symm⟩)
  | (exfalso;revert h;simp [runtimePanic,go_sem];done)
  | skip
 simp only [Sem.run_bind] at h;generalize Sem.run P program w=r1 at h;cases r1 with
 | halt y w1=>simp [Result.andThen] at h
 | ok p w1=>
  simp only [Result.andThen_ok] at h;generalize Sem.run P (nilAhead _ _ _ _) w1=r2 at h;cases r2 with
  | halt y w2=>simp [Result.andThen] at h
  | ok q w2=>
   simp only [Result.andThen_ok] at h;split at h
   ·simp only [Sem.run_bind] at h;generalize Sem.run P (unsupported _) w2=r3 at h;cases r3 with
    | halt y w3=>simp [Result.andThen] at h
    | ok q w3=>
     simp only [Result.andThen_ok,Sem.run_pure,Result.ok.injEq] at h;exact ⟨_,h.1.symm⟩
   ·simp only [Sem.run_pure,Result.ok.injEq] at h;exact ⟨_,h.1.symm⟩
structure Has (b:Nat) (o:Obj) where
 w:World
 h:w.heap[b]?=some o
structure Has2 (b:Nat) (o:Obj) (b':Nat) (o':Obj) where
 w:World
 h:w.heap[b]?=some o
 h':w.heap[b']?=some o'
structure HasC (l:List (Addr × Value)) where
 w:World
 h:∀q∈l,w.cell? q.1=some q.2
theorem BP {Q:Exit->Act->World->Prop} (h:∀x a a' w,a'.defers=a.defers->Q (.panic x) a' w->Q (.panic x) a w) (x:List PanicEntry) (a:Act) (d:Option Tmp) (v:Value) (w:World) (hq:Q (.panic x) (a.put d v) w):Q (.panic x) a w:=
 h x a _ w (by cases d <;> rfl) hq
section
variable {P:Program} {ops:Array Oper} {Q:Exit->Act->World->Prop} {F:World->Prop} {c:Nat}
def BQ (ops:Array Oper) (c:Nat):List Nat->Array Bool->Bool
 | [],_=>true
 | i::is,s=>kU ops s && Region.free .any ops s i && (Region.ready .any ops s).contains i && (i != c) && mf ops ops.size c i && (match ops[i]? with | some o=>vL o | none=>false) && BQ ops c is (s.setIfInBounds i true)
def un:List Nat->Array Bool->Array Bool
 | [],s=>s
 | i::is,s=>un is (s.setIfInBounds i true)
def gh (ops:Array Oper):List Nat->List Oper
 | []=>[]
 | i::is=>match ops[i]? with
  | some o=>o::gh ops is
  | none=>gh ops is
theorem xY (ns:Region.noSelect ops=true) {fuel:Nat} {w:World} (hF:F w) (hQ:∀x a (d:Option Tmp) v w,Q (.panic x) (a.put d v) w->Q (.panic x) a w):∀(is:List Nat) (s:Array Bool) (a:Act),BQ ops c is s=true->
 wpQuiet P ops F (fun a'=>aV P ops Q F c fuel (un is s) a' w) (gh ops is) a->aV P ops Q F c (fuel+is.length) s a w
 | [],s,a,_,h=>h
 | i::is,s,a,hB,h=>by
  simp only [BQ,Bool.and_eq_true] at hB;obtain ⟨⟨⟨⟨⟨⟨h1,h2⟩,h3⟩,h4⟩,h5⟩,h6⟩,h7⟩:=hB;cases ho:ops[i]? with
  | none=>rw [ho] at h6;cases h6
  | some o=>
   rw [ho] at h6;simp only [gh,ho,wpQuiet] at h;have key:∀v,YieldsIf P ops (fun w=>∃l,Closed ops l∧l.getD i true=false∧(l.getD c false=false->F w)) o v a->wpQuiet P ops F (fun a'=>aV P ops Q F c fuel (un is (s.setIfInBounds i true)) a' w) (gh ops is) (a.put o.dst v)->aV P ops Q F c (fuel+(i::is).length) s a w:=fun v hy hn=>
    kT ho (by simpa using h4) (Region.noSelect_spec ns) (fun x a w=>hQ x a _ _ w) (fuel+is.length) s a w (je h1) (Region.free_spec ho h2) (by simpa using h3) hy (fun _=>hF) (xY ns hF hQ is _ _ h7 hn)
   split at h
   ·rename_i hw;obtain ⟨v,hv,hn⟩:=h;refine key v (.inl ⟨hw,fun u ⟨l,l1,l2,l3⟩=>?_⟩) hn;have hFu:F u:=l3 (by
     cases hh:l.getD c false
     ·rfl
     ·have:=jO l1 _ _ h5 hh;rw [wk l2] at this;cases this)
    have hq:=hv u hFu;unfold Oper.quietAt at hq;generalize hr:(execOp a.eval o).run P u=r at hq;cases r with
    | halt x w1=>exact hq.elim
    | ok n w1=>
     obtain ⟨x,rfl⟩:=sL h6 hr;obtain ⟨rfl,rfl⟩:=hq;rfl
   ·rename_i hw;exact key undef (.inr ⟨by simpa using hw,rfl⟩) h
theorem zG {fuel:Nat} {listed:Array Bool} {a:Act} {w:World} (i:Nat) {o:Oper} (d:Tmp) (hd:o.dst=some d) (hi:ops[i]?=some o) (hg:o.guard=none) (hr:Region.ready .any ops listed=[i]) {f:FuncId} {args:Array Value} (he:(execOp a.eval o).run P w=.ok (.enter f args) w)
 (h:Calls P f args w fun e w'=>(∃x,e=.returned x∧((listed.setIfInBounds i true).getD c false=false->F w')∧aV P ops Q F c fuel (listed.setIfInBounds i true) (a.put (some d) x) w')∨(∃ch,e=.panicked ch∧Q (.panic ch) a w')):aV P ops Q F c (fuel+1) listed a w:=by
 refine iJ i hr ?_;unfold wpOp;simp only [hi];rw [if_pos (by simp [Region.wanted,hg])];refine .inl ?_;unfold Oper.wp;rw [he];refine h.mono ?_;rintro e w' (⟨x,rfl,hS,h2⟩ | ⟨ch,rfl,h2⟩)
 ·refine ⟨hS,?_⟩;rw [hd];exact h2
 ·exact h2
theorem ep {fuel:Nat} {listed:Array Bool} {a:Act} {w:World} (i:Nat) {o:Oper} (d:Tmp) (hi:ops[i]?=some o) {f:FuncId} {args:Array Value}
 (h:Calls P f args w fun e w'=>(∃x,e=.returned x∧((listed.setIfInBounds i true).getD c false=false->F w')∧aV P ops Q F c fuel (listed.setIfInBounds i true) (a.put (some d) x) w')∨(∃ch,e=.panicked ch∧Q (.panic ch) a w'))
 (hd:o.dst=some d:=by kernel_rfl) (hg:o.guard=none:=by kernel_rfl) (hr:Region.ready .any ops listed=[i]:=by kernel_rfl) (he:(execOp a.eval o).run P w=.ok (.enter f args) w:=by kernel_rfl):aV P ops Q F c (fuel+1) listed a w:=zG i d hd hi hg hr he h
theorem eO {fuel:Nat} {w:World} (hF:F w) (is:List Nat) {s:Array Bool} {a:Act} (h:wpQuiet P ops F (fun a'=>aV P ops Q F c fuel (un is s) a' w) (gh ops is) a) (hB:BQ ops c is s=true:=by kernel_rfl) (ns:Region.noSelect ops=true:=by kernel_rfl)
 (hQ:∀x a (d:Option Tmp) v w,Q (.panic x) (a.put d v) w->Q (.panic x) a w:=by exact BP fun _ _ _ _ e h=>⟨e ▸ h.1,h.2⟩):aV P ops Q F c (fuel+is.length) s a w:=xY ns hF hQ is s a hB h
end
end Go.Proofs.YthdgiakgepmabaaGreat
