import Derived.Test.YthdgiakgepmabaaGreatDk09
namespace Go.Proofs.YthdgiakgepmabaaGreat
open Go.RowKit
set_option linter.unusedVariables false
set_option maxHeartbeats 6400000
set_option maxRecDepth 20000
theorem lj (plain:Bool) (hcc:PlC plain) (p:PtrM) (al:Option Addr) (cl:Nat) (pick:Int) (r:RunM) (kind va:Int) (w:World) (hr:RunIn w p al cl r) (hk:ROk r) (hpk:0<=pick∧pick<=255) (hkd:0<=kind∧kind<=2) (hv:inU va) (hll:r.looks.length<=7):
 Calls Tryz.prog 68 #[.agg (aG p al cl plain pick r),VI kind,VU va] w fun e w'=>(∃p' al' cl',e=.returned (.tuple #[.agg (aG p' al' cl' plain pick (bf plain pick r kind va)),fZ (aT plain pick r.h kind va).1])∧RunIn w' p' al' cl' (bf plain pick r kind va)∧From w.heap.size p p'∧FromL w.heap.size al al')∧Bw w w':=by
 cases plain
 ·exact hcc.resolve_left (by decide) p al cl pick r kind va w hr hk hpk hkd hv hll
 ·exact pE p al cl pick r kind va w hr hk hpk hkd hv hll
def dx:List bw->List Value
 | []=>[]
 | p::ps=>.int .u64 p.1::.int .i64 p.2.1::.int .u64 p.2.2::dx ps
theorem ry (ps:List bw):(dx ps).length=ps.length*3:=by
 induction ps with
 | nil=>rfl
 | cons p ps ih=>simp [dx,ih];omega
theorem jg:∀(ps:List bw) (i:Nat) (p:bw),ps[i]?=some p->(dx ps)[i*3]?=some (VU p.1)∧(dx ps)[i*3+1]?=some (VI p.2.1)∧(dx ps)[i*3+2]?=some (VU p.2.2)
 | q::ps,0,p,h=>by
  simp at h;subst h;exact ⟨rfl,rfl,rfl⟩
 | q::ps,i+1,p,h=>by
  have:=jg ps i p (by simpa using h);rw [show (i+1)*3=i*3+3 by omega];simpa [dx] using this
theorem rz:∀(ps:List bw) (i:Nat) (p:bw) (x:Int),ps[i]?=some p->(dx ps).set (i*3+2) (VU x)=dx (ps.set i (p.1,p.2.1,x))
 | q::ps,0,p,x,h=>by
  simp at h;subst h;rfl
 | q::ps,i+1,p,x,h=>by
  have:=rz ps i p x (by simpa using h);rw [show (i+1)*3+2=i*3+2+1+1+1 by omega];simp only [dx,List.set_cons_succ,this]
theorem Ex (va wd:Int):(cD va wd).length=1∨(cD va wd).length=2:=by
 unfold cD;split <;> simp
structure PartsAt (plain:Bool) (pick kind:Int) (r0:RunM) (cut:List bw) (ri:RunM) (done rest:List bw):Prop where
 eq:ag plain pick kind r0 cut=((ag plain pick kind ri rest).1,done++(ag plain pick kind ri rest).2)
 ok:ROk ri
 cause:ri.cause=0
 parts:dZ (done++rest)
 looks:ri.looks.length+rest.length<=8
theorem PartsAt.step {plain:Bool} {pick kind:Int} {r0 ri:RunM} {cut done rest:List bw} {q:bw} (h:PartsAt plain pick kind r0 cut ri done (q::rest)) (hp:0<=pick∧pick<=255) (hk:0<=kind∧kind<=2) (h0:(aT plain pick ri.h kind q.1).1.1=0):
 PartsAt plain pick kind r0 cut (bf plain pick ri kind q.1) (done++[(q.1,q.2.1,(aT plain pick ri.h kind q.1).1.2)]) rest:=by
 have hq:=h.parts q (List.mem_append_right _ (List.mem_cons_self ..));refine ⟨?_,jm h.ok plain hp hk hq.1,h.cause,?_,?_⟩
 ·rw [h.eq,ag,if_pos h0];simp
 ·intro x hx;rw [List.append_assoc,List.mem_append] at hx;rcases hx with hx | hx
  ·exact h.parts x (List.mem_append_left _ hx)
  ·rcases List.mem_cons.1 hx with rfl | hx
   ·exact ⟨hq.1,hq.2.1,(jk h.ok.h plain hp hk hq.1).2.2⟩
   ·exact h.parts x (List.mem_append_right _ (List.mem_cons_of_mem _ hx))
 ·have:=h.looks;simp only [List.length_cons] at this;show (ri.looks++[(kind,q.1)]).length+rest.length<=8;rw [List.length_append,List.length_singleton];omega
theorem PartsAt.trap {plain:Bool} {pick kind:Int} {r0 ri:RunM} {cut done rest:List bw} {q:bw} (h:PartsAt plain pick kind r0 cut ri done (q::rest)) (h0:(aT plain pick ri.h kind q.1).1.1≠0):
 (ag plain pick kind r0 cut).1=bI (bf plain pick ri kind q.1) (aT plain pick ri.h kind q.1).1.1 q.1:=by
 rw [h.eq,ag,if_neg h0]
theorem PartsAt.done {plain:Bool} {pick kind:Int} {r0 ri:RunM} {cut done:List bw} (h:PartsAt plain pick kind r0 cut ri done []):ag plain pick kind r0 cut=(ri,done):=by
 rw [h.eq,ag];simp
theorem lG (plain:Bool) (hcc:PlC plain) (p:PtrM) (al:Option Addr) (cl:Nat) (pick:Int) (r:RunM) (kind va wd:Int) (w:World) (hr:RunIn w p al cl r) (hk:ROk r) (h0:r.cause=0) (hpk:0<=pick∧pick<=255) (hkd:0<=kind∧kind<=2) (hv:inU va) (hw:1<=wd∧wd<=8) (hll:r.looks.length<=6):
 Calls Tryz.prog 95 #[.agg (aG p al cl plain pick r),VI kind,VU va,VI wd] w fun e w'=>(∃p' al' cl' ga n c,e=.returned (.tuple #[.agg (aG p' al' cl' plain pick (aw plain pick r kind va wd).1),.slice ga n c])∧RunIn w' p' al' cl' (aw plain pick r kind va wd).1∧From w.heap.size p p'∧FromL w.heap.size al al'∧((aw plain pick r kind va wd).1.cause=0->n=(aw plain pick r kind va wd).2.length∧n<=2∧∃g,ga=some (AD g 0)∧RowC w' ga n 3 (dx (aw plain pick r kind va wd).2)))∧Bw w w':=by
 have HI:=hid hr;have HOK:=hid hk;have hp0:=bP p al cl plain pick r;have hw1:va%64<=63:=by omega
 have hw2:0<=va%64:=by omega
 obtain ⟨cut,hcut⟩:∃cut,cD va wd=cut:=⟨_,rfl⟩;have HC:=hid hcut;have HL:Hid (cut.length=1∨cut.length=2):=by rw [<-hcut];exact Ex va wd
 have HPt:Hid (dZ cut):=by rw [<-hcut];exact rN va wd hv hw
 have hv1:=hv.1;have hv2:=hv.2;clear hcut hr hk;generalize hC0:aG p al cl plain pick r=C at *;have HC0:Hid _:=hC0;clear hC0;go_enter Tryz.func95,Tryz.ntmps95;go_upto_region 1 with fail;have F:=jW w C eS 54 54;generalize (w.alloc (Obj.cells C 54)).alloc (Obj.cells eS 54)=v1 at F |-;obtain ⟨h3,h6,l1,n1⟩:=F;have H3:Hid _:=h3;have H6:Hid _:=h6;have b1:w.heap.size<v1.heap.size:=by omega
 have b2:w.heap.size+1<v1.heap.size:=by omega
 clear h3 h6 l1;by_cases hwl:64-va%64<wd;have hcv:cut=[(va,64-va%64,0),(IntKind.u64.wrap (va+(64-va%64)),wd-(64-va%64),0)]:=by
  rw [<-HC.out];unfold cD;rw [if_pos hwl];rfl
 have HN:Hid (cut.length=2):=by rw [hcv];rfl
 have hcc:(dx cut).toArray=#[VU va,VI (64-va%64),VU 0,VU (IntKind.u64.wrap (va+(64-va%64))),VI (wd-(64-va%64)),VU 0]:=by rw [hcv];rfl
 have HCC:Hid _:=hcc;clear hcv hcc;go_upto_region 5 with fail;have n2:=(Below.refl v1.heap.size v1).alloc nle (Obj.cells #[VU va,VI wd,VU 0] 243);have s2:=World.size_alloc v1 (Obj.cells #[VU va,VI wd,VU 0] 243);have n3:=(Below.refl (v1.alloc (Obj.cells #[VU va,VI wd,VU 0] 243)).heap.size (v1.alloc (Obj.cells #[VU va,VI wd,VU 0] 243))).alloc nle (Obj.cells (dx cut).toArray 243);have OG:Hid _:=OwnC.low (OwnC.new 243 3 (v1.alloc (Obj.cells #[VU va,VI wd,VU 0] 243)) (dx cut) 2 (by rw [ry,HN.out]) (by decide)) (show v1.heap.size<=_ by omega);have n23:=bst n2 n3;rw [HCC.out] at n3 OG n23;rw [s2] at OG;generalize (v1.alloc (Obj.cells #[VU va,VI wd,VU 0] 243)).alloc (Obj.cells #[VU va,VI (64-va%64),VU 0,VU (IntKind.u64.wrap (va+(64-va%64))),VI (wd-(64-va%64)),VU 0] 243)=vG at OG n23 |-;clear n2 n3 s2;have K3:Hid _:=ae H3.out n23 b1;have K6:Hid _:=ae H6.out n23 b2;have nG:=bst n1 n23;have hg:v1.heap.size<=v1.heap.size+1:=by omega
 have hgG:=(OwnC.facts OG.out).2.2.1;generalize v1.heap.size+1=g at OG hg hgG |-;obtain ⟨n,hn,hn2,hn3⟩:∃n:Nat,n=2∧1<=n∧n<=2:=⟨2,rfl,by omega,by omega⟩;rw [<-hn] at HN OG |-;clear hn
 rotate_left
 have hcv:cut=[(va,wd,0)]:=by rw [<-HC.out];unfold cD;rw [if_neg hwl]
 have HN:Hid (cut.length=1):=by rw [hcv];rfl
 have hcc:(dx cut).toArray=#[VU va,VI wd,VU 0]:=by rw [hcv];rfl
 have HCC:Hid _:=hcc;clear hcv hcc;go_upto_region 5 with fail;have n2:=(Below.refl v1.heap.size v1).alloc nle (Obj.cells (dx cut).toArray 243);have OG:Hid _:=OwnC.new 243 3 v1 (dx cut) 1 (by rw [ry,HN.out]) (by decide);rw [HCC.out] at n2 OG;generalize v1.alloc (Obj.cells #[VU va,VI wd,VU 0] 243)=vG at OG n2 |-;have K3:Hid _:=ae H3.out n2 b1;have K6:Hid _:=ae H6.out n2 b2;have nG:=bst n1 n2;have hg:v1.heap.size<=v1.heap.size:=nle;have hgG:=(OwnC.facts OG.out).2.2.1;obtain ⟨g,hge⟩:∃g,v1.heap.size=g:=⟨_,rfl⟩;have OG':Hid (OwnC 243 3 vG v1.heap.size g 1 1 (dx cut)):=by have:=OG.out;rw [hge] at this |-;exact this
 have hg':v1.heap.size<=g:=by omega
 have hgG':g<vG.heap.size:=by omega
 rw [hge];clear OG hg hgG hge n2;have OG:Hid _:=OG'.out;have hg:=hg';have hgG:=hgG';clear OG' hg' hgG';obtain ⟨n,hn,hn2,hn3⟩:∃n:Nat,n=1∧1<=n∧n<=2:=⟨1,rfl,by omega,by omega⟩;have HN':Hid (cut.length=n):=by rw [hn];exact HN
 have OG':Hid (OwnC 243 3 vG v1.heap.size g n n (dx cut)):=by rw [hn];exact OG
 rw [show Value.slice (some ⟨g,0,none⟩) 1 1=Value.slice (some ⟨g,0,none⟩) n n by rw [hn]];clear HN OG hn;have HN:Hid _:=HN'.out;have OG:Hid _:=OG'.out;clear HN' OG'
 rotate_left
 all_goals
  go_wp2;go_loopw [12] (fun iv wr=>∃(i:Nat) (ri:RunM) (pi:PtrM) (ai:Option Addr) (ci:Nat) (done rest:List bw),iv=VI i∧done.length=i∧done.length+rest.length=n∧PartsAt plain pick kind r cut ri done rest∧wr.heap[w.heap.size]?=some (.cells (aG pi ai ci plain pick ri) 54 (0,0))∧wr.heap[w.heap.size+1]?=some (.cells eS 54 (0,0))∧OwnC 243 3 wr v1.heap.size g n n (dx (done++rest))∧RunIn wr pi ai ci ri∧(∀q,some q∈be pi->(some q∈be p∧q.block<w.heap.size)∨vG.heap.size<=q.block)∧(∀q,ai=some q->(al=some q∧q.block<w.heap.size)∨vG.heap.size<=q.block)∧vG.heap.size<=wr.heap.size∧Bw w wr) (fun iv _=>n-(intOf iv).toNat)
  case atStart=>exact ⟨0,r,p,al,cl,[],cut,rfl,rfl,by simpa using HN.out,⟨by simp,HOK.out,h0,by simpa using HPt.out,by rw [HN.out];omega⟩,by rw [HC0.out];exact K3.out,K6.out,OG.out,HI.out.keep nG,fun q hq=>.inl ⟨hq,HI.out.h.low q hq⟩,fun q hq=>.inl ⟨hq,HI.out.low q hq⟩,nle,nG⟩
  case round=>
   obtain ⟨i,ri,pi,ai,ci,done,rest,rfl,hdi,hdr,hPA,hB3,hB6,hOw,hIn,hA1,hA2,hVG,hBl⟩:=hrel;have HA1:Hid _:=hA1;have HA2:Hid _:=hA2;have HPA:=hid hPA;have HB3:Hid _:=hB3;have HB6:Hid _:=hB6;have HOw:=hid hOw;have HIn:=hid hIn;have b3:=(hpl hB3);have b6:=(hpl hB6);have bG:=hOw.facts.2.2.1;clear hPA hB3 hB6 hOw hIn hA1 hA2 K3 K6 OG nG;cases rest with
   | nil=>
    have hin:i=n:=by simp at hdr;omega
    subst hin;have HTP:=hid HPA.out.done;have HPM:Hid (aw plain pick r kind va wd=match fL ri.h.mem done with | none=>(ri,done) | some v=>(bI ri (bO kind) v,done)):=by
     show _=_;unfold aw;rw [HC.out,HTP.out,if_pos HPA.out.cause];cases fL ri.h.mem done <;> rfl
    rw [List.append_nil] at HOw;have hRs:=bP pi ai ci plain pick ri;have g0:(aG pi ai ci plain pick ri)[0]?=some (.slice pi.am ri.h.mem.length pi.cm):=rfl;have HRo:Hid ((aG pi ai ci plain pick ri).all (·.oneCell')=true):=dM _ _ _ _ _ _;have hml:=(iy HPA.out.ok.h.v.size).2.2;have HPo:Hid (dZ done):=fun x hx=>HPA.out.parts x (List.mem_append_left _ hx);have HTpA:Hid (∀u c t,Calls Tryz.prog 67 #[.agg (aG pi ai ci plain pick ri),VI c,VU t] u fun e w'=>e=.returned (.agg (aG pi ai ci plain pick (bI ri c t)))∧Bw u w'):=fun u c t=>jE pi ai ci plain pick ri c t u;have HLr:Hid (∀u:World,u.heap[w.heap.size]?=some (.cells (aG pi ai ci plain pick ri) 54 (0,0))->(Instr.loadAt 54 (PT w.heap.size 0)).run Tryz.prog u=.ok (.agg (aG pi ai ci plain pick ri)) u):=fun u hu=>aW (P:=Tryz.prog) (T:=54) hu Tryz.underlying54 rfl (by rw [hRs];exact dq);generalize hRAe:aG pi ai ci plain pick ri=RA at HB3 hRs g0 HRo HTpA HLr;have HRA:Hid _:=hRAe;clear hRAe;generalize wr=wa at *;go_wp2;go_loopw [14] (fun jv wz=>∃j:Nat,jv=VI j∧j<=i∧fL ri.h.mem done=fL ri.h.mem (done.drop j)∧Bw wa wz) (fun jv _=>i-(intOf jv).toNat)
    case atStart=>exact ⟨0,rfl,Nat.zero_le _,by simp,brf⟩
    case round=>
     obtain ⟨j,rfl,hj,hout,hbz⟩:=hrel;have HOut:Hid _:=hout;clear hout;have K3:Hid _:=ae HB3.out hbz b3;have K6:Hid _:=ae HB6.out hbz b6;have OK':Hid (OwnC 243 3 wr v1.heap.size g i i (dx done)):=OwnC.keep HOw.out hbz bG;have IK:Hid (RunIn wr pi ai ci ri):=HIn.out.keep hbz;have nK:=bst hBl hbz;have bz:=hbz.size;by_cases hjl:j<i
     ·obtain ⟨q,hq⟩:∃q,done[j]?=some q:=⟨_,geg (by omega)⟩;have hqo:=HPo.out q (List.mem_of_getElem? hq);obtain ⟨x1,x2,x3⟩:=jg _ j q hq;have y0:=ab K3.out 0 g0;have y1:=aQ OK'.out _ _ x1;have y2:=aQ OK'.out _ _ x2;have y3:=aQ OK'.out _ _ x3;have HY1:Hid (wr.cell? ⟨g,j*3,none⟩=some (VU q.1)):=y1;have hdr:done.drop j=q::done.drop (j+1):=by
       rw [List.drop_eq_getElem_cons (by omega)];congr 1;rw [geg (by omega)] at hq;exact Option.some.inj hq
      obtain ⟨ib,hib⟩:∃ib,fD ri.h.mem.length q.2.2 q.2.1=ib:=⟨_,rfl⟩;have HIB:Hid (fD ri.h.mem.length q.2.2 q.2.1=ib):=hib;have HIn1:Hid (∀u:World,Calls Tryz.prog 122 #[.slice pi.am ri.h.mem.length pi.cm,VU q.2.2,VI q.2.1] u fun e w'=>e=.returned (.bool ib)∧w'=u):=fun u=>by
       have:=oL pi.am ri.h.mem.length pi.cm q.2.2 q.2.1 u (by omega) hqo.2.2.1 hqo.2.2.2 (by omega) (by omega);rw [hib] at this;exact this
      have HDr:Hid (fL ri.h.mem done=if ib=true then fL ri.h.mem (done.drop (j+1)) else some q.1):=by
       show _=_;rw [HOut.out,hdr,fL,hib]
      have hJlt:(j:Int)<(i:Int):=by omega
      have hJ0:(0:Int)<=(j:Int):=by omega
      have hqu:=hqo.1;clear x1 x2 x3 hib hdr hqo hq;go_upto_region 16 with fail;have ne:=eF wr;have lw:w.heap.size<wr.heap.size:=by omega
      have lg:g<wr.heap.size:=by omega
      have z0:=aM y0 lw;have z2:=aM y2 lg;have z3:=aM y3 lg;clear y0 y1 y2 y3;refine cN (by kernel_rfl) (by kernel_rfl) ?_;repeat (go_big_quiet_step ((go_at_call 122;exact jZ _ (HIn1.out _))))
      refine wpQuiet_nil ?_;rintro _ ⟨u,rfl⟩;have hu:=u.h;generalize u.w=vz at hu |-;clear ne z0 z2 z3;cases ib with
      | true=>
       go_wp2;go_roundw
       case rel=>exact ⟨j+1,by go_num,by omega,by rw [HDr.out];rfl,bst hbz hu⟩
       case measure=>simp [intOf];omega
      | false=>
       have HPN:Hid (aw plain pick r kind va wd=(bI ri (bO kind) q.1,done)):=by
        show _=_;rw [HPM.out,HDr.out];rfl
       have M3:Hid _:=ae K3.out hu (by omega);have M6:Hid _:=ae K6.out hu (by omega);have cq:=Below.cell2 hu HY1.out lg;have nM:=bst nK hu;have IM:Hid (RunIn vz pi ai ci ri):=IK.out.keep hu;have bz':=hu.size;have hRT:=bP pi ai ci plain pick (bI ri (bO kind) q.1);have HRTo:Hid ((aG pi ai ci plain pick (bI ri (bO kind) q.1)).all (·.oneCell')=true):=dM _ _ _ _ _ _;have HTp:Hid (∀u,Calls Tryz.prog 67 #[.agg RA,VI (bO kind),VU q.1] u fun e w'=>e=.returned (.agg (aG pi ai ci plain pick (bI ri (bO kind) q.1)))∧Bw u w'):=fun u=>HTpA.out u _ _;generalize hRTe:aG pi ai ci plain pick (bI ri (bO kind) q.1)=RT at hRT HRTo HTp;have HRT:Hid _:=hRTe;clear hRTe;have HLq:Hid (∀u:World,u.cell? ⟨g,j*3,none⟩=some (VU q.1)->(Instr.loadAt 33 (.pointer (some ⟨g,j*3,none⟩))).run Tryz.prog u=.ok (VU q.1) u):=fun u hu=>by go_simp
       go_upto_region 17 with fail;have hF6:vz.drew.heap[w.heap.size]?=some (.cells RA 54 (0,0))∧vz.drew.cell? ⟨g,j*3,none⟩=some (VU q.1):=⟨M3.out,by simpa using cq⟩;refine ax (fun u=>u.heap[w.heap.size]?=some (.cells RA 54 (0,0))∧u.cell? ⟨g,j*3,none⟩=some (VU q.1)) 10 ?_;refine aj 0 96 (.agg RA) rfl hF6 ?_ (hy:=fun u hu=>aD rfl (HLr.out u hu.1));refine aj 1 97 (VI kind) rfl hF6 ?_;refine aj 3 99 (SL g i i) rfl hF6 ?_;refine aj 4 100 (VI j) rfl hF6 ?_
       go_frame
       refine aj 5 101 (.pointer (some ⟨g,j*3,none⟩)) rfl hF6 ?_ (hy:=fun u hu=>(by have h1:=hJlt;have h2:=hJ0;go_simp));refine aj 6 102 (.pointer (some ⟨g,j*3,none⟩)) rfl hF6 ?_
       go_frame
       refine aj 7 103 (VU q.1) rfl hF6 ?_ (hy:=fun u hu=>aD rfl (HLq.out u hu.2))
       go_frame
       refine fN 9 105 (SL g i i) rfl (.inr hF6) ?_
       go_frame
       refine du 2 98 rfl (f:=123) (args:=#[VI kind]) ?_;refine (kx kind vz.drew).mono ?_;rintro e v5 ⟨rfl,rfl⟩;refine ⟨_,rfl,fun _=>hF6,?_⟩
       go_frame
       refine du 8 104 rfl (f:=67) (args:=#[.agg RA,VI (bO kind),VU q.1]) ?_;refine (HTp.out vz.drew).mono ?_;rintro e v6 ⟨rfl,n6'⟩;have n6:Bw vz v6:=bst ((brf).drew) n6';have R6:Hid _:=ae M6.out n6 (by omega);have n7:=bst nM n6;have I6:Hid (RunIn v6 pi ai ci ri):=IM.out.keep n6;refine ⟨_,rfl,fun _=>⟨ae M3.out n6 (by omega),Below.cell2 n6 cq (by omega)⟩,?_⟩
       go_frame
       have gS:=aH (w.heap.size+1) RT.toList 0 v6 v6 (ao v6 _);have e1:=aI (V:=RT) R6.out (by rw [hRT,aS]);have e2:=aK (show w.heap.size<=w.heap.size+1 by omega) RT.toList 0 v6 n7;refine dz 10 8 104 rfl (aR (P:=Tryz.prog) (T:=54) (V:=RT) R6.out (by rw [hRT];exact dq) (by rw [hRT,aS]) HRTo.out) ?_;refine fN 11 9 (SL g i i) rfl (.inl (by kernel_rfl)) ?_
       go_frame
       refine dc ?_;go_wp2_with fail;refine ta (b:=w.heap.size+1) (W:=SL g i i) Tryz.results95 rfl rfl (bC (P:=Tryz.prog) e1 Tryz.underlying54 rfl (by rw [hRT];exact dq)) rfl ?_;have k6:=I6.out.gb gS (fun q hq=>by have:=HA1.out q hq;omega) (fun q hq=>by have:=HA2.out q hq;omega);rw [HPN.out];exact ⟨⟨pi,ai,ci,some (AD g 0),i,i,by rw [HRT.out],⟨k6.h,k6.looks,k6.lookc,k6.looka,k6.lookl,k6.low⟩,fun q hq=>(HA1.out q hq).imp And.left (fun h=>Nat.le_trans (by omega) h),fun q hq=>(HA2.out q hq).imp And.left (fun h=>Nat.le_trans (by omega) h),fun h=>absurd h (ir kind)⟩,e2⟩
     ·have hji:j=i:=by omega
      subst hji;have HPN:Hid (aw plain pick r kind va wd=(ri,done)):=by
       show _=_;rw [HPM.out,HOut.out,List.drop_of_length_le (by omega)];rfl
      go_upto_region 18 with fail;have HSr:Hid _:=aR (P:=Tryz.prog) (T:=54) (V:=RA) K6.out (by rw [hRs];exact dq) (by rw [hRs,aS]) HRo.out;have HL2:Hid _:=HLr.out wr K3.out;have e1:=aI (V:=RA) K6.out (by rw [hRs,aS]);have e2:=aK (show w.heap.size<=w.heap.size+1 by omega) RA.toList 0 wr nK;have gS:=aH (w.heap.size+1) RA.toList 0 wr wr (ao wr _);go_wp2_with (first
       | ((with_reducible refine bj ?_ HL2.out ?_);(exact rfl))
       | ((with_reducible refine az ?_ ?_ HSr.out ?_);(exact rfl);(exact rfl)))
      refine ta (b:=w.heap.size+1) (W:=SL g j j) Tryz.results95 rfl rfl (bC (P:=Tryz.prog) e1 Tryz.underlying54 rfl (by rw [hRs];exact dq)) rfl ?_;rw [HPN.out];exact ⟨⟨pi,ai,ci,some (AD g 0),j,j,by rw [HRA.out],IK.out.gb gS (fun q hq=>by have:=HA1.out q hq;omega) (fun q hq=>by have:=HA2.out q hq;omega),fun q hq=>(HA1.out q hq).imp And.left (fun h=>Nat.le_trans (by omega) h),fun q hq=>(HA2.out q hq).imp And.left (fun h=>Nat.le_trans (by omega) h),fun _=>⟨hdi.symm,hn3,g,rfl,OwnC.row (OwnC.gb OK'.out gS (by omega))⟩⟩,e2⟩
   | cons q rest=>
    have hlt:i<n:=by simp at hdr;omega
    have hq:(done++q::rest)[i]?=some q:=by rw [<-hdi];simp
    have HQ:Hid ((done++q::rest)[i]?=some q):=hq;have hqo:=HPA.out.parts q (List.mem_append_right _ (List.mem_cons_self ..));have HQo:Hid _:=hqo;obtain ⟨x1,x2,x3⟩:=jg _ i q hq;have HX1:Hid _:=x1;have q1:=hqo.1.1;have q2:=hqo.1.2;clear x1 x2 x3 hqo hq;have hIlt:(i:Int)<(n:Int):=by omega
    have hI0:(0:Int)<=(i:Int):=by omega
    go_upto_region 9 with fail;have F2:=bF wr #[VI 0,VU 0] 161;generalize wr.alloc (Obj.cells #[VI 0,VU 0] 161)=v2 at F2 |-;obtain ⟨hT2,l2,n2⟩:=F2;have b2T:wr.heap.size<v2.heap.size:=by omega
    clear l2;have HT2:Hid _:=hT2;have J3:Hid _:=ae HB3.out n2 b3;have J6:Hid _:=ae HB6.out n2 b6;have OJ:Hid (OwnC 243 3 v2 v1.heap.size g n n (dx (done++q::rest))):=OwnC.keep HOw.out n2 bG;have IJ:Hid (RunIn v2 pi ai ci ri):=HIn.out.keep n2;have nJ:=bst hBl n2;have hRs:=bP pi ai ci plain pick ri;have cq:=aQ OJ.out _ _ HX1.out;have HLr:Hid (∀u:World,u.heap[w.heap.size]?=some (.cells (aG pi ai ci plain pick ri) 54 (0,0))->(Instr.loadAt 54 (PT w.heap.size 0)).run Tryz.prog u=.ok (.agg (aG pi ai ci plain pick ri)) u):=fun u hu=>aW (P:=Tryz.prog) (T:=54) hu Tryz.underlying54 rfl (by rw [hRs];exact dq);have HLq:Hid (∀u:World,u.cell? ⟨g,i*3,none⟩=some (VU q.1)->(Instr.loadAt 33 (.pointer (some ⟨g,i*3,none⟩))).run Tryz.prog u=.ok (VU q.1) u):=fun u hu=>by go_simp
    have HTr:Hid (∀u,Bw v2 u->Calls Tryz.prog 68 #[.agg (aG pi ai ci plain pick ri),VI kind,VU q.1] u fun e w'=>(∃p' al' cl',e=.returned (.tuple #[.agg (aG p' al' cl' plain pick (bf plain pick ri kind q.1)),fZ (aT plain pick ri.h kind q.1).1])∧RunIn w' p' al' cl' (bf plain pick ri kind q.1)∧From u.heap.size pi p'∧FromL u.heap.size ai al')∧Bw u w'):=fun u hu=>lj plain hcc pi ai ci pick ri kind q.1 u (IJ.out.keep hu) HPA.out.ok hpk hkd HQo.out.1 (by have:=HPA.out.looks;simp only [List.length_cons] at this;omega);have hF:v2.drew.heap[w.heap.size]?=some (.cells (aG pi ai ci plain pick ri) 54 (0,0))∧v2.drew.cell? ⟨g,i*3,none⟩=some (VU q.1):=⟨J3.out,by simpa using cq⟩;refine ax (fun u=>u.heap[w.heap.size]?=some (.cells (aG pi ai ci plain pick ri) 54 (0,0))∧u.cell? ⟨g,i*3,none⟩=some (VU q.1)) 11 ?_;refine aj 0 46 (.agg (aG pi ai ci plain pick ri)) rfl hF ?_ (hy:=fun u hu=>aD rfl (HLr.out u hu.1));refine aj 1 47 (VI kind) rfl hF ?_;refine aj 2 48 (SL g n n) rfl hF ?_;refine aj 3 49 (VI i) rfl hF ?_
    go_frame
    refine aj 4 50 (.pointer (some ⟨g,i*3,none⟩)) rfl hF ?_ (hy:=fun u hu=>(by have h1:=hIlt;have h2:=hI0;go_simp));refine aj 5 51 (.pointer (some ⟨g,i*3,none⟩)) rfl hF ?_
    go_frame
    refine aj 6 52 (VU q.1) rfl hF ?_ (hy:=fun u hu=>aD rfl (HLq.out u hu.2))
    go_frame
    refine du 7 53 rfl (f:=68) (args:=#[.agg (aG pi ai ci plain pick ri),VI kind,VU q.1]) ?_;refine (HTr.out v2.drew ((brf).drew)).mono ?_;rintro e v3 ⟨⟨p',al',cl',rfl,hIn3,hFr,hFl⟩,n3'⟩;have HFr:Hid (∀q,some q∈be p'->((some q∈be p∧q.block<w.heap.size)∨vG.heap.size<=q.block)∧q.block≠wr.heap.size):=fun q hq=>by
     rcases hFr q hq with h | h
     ·exact ⟨HA1.out q h,Nat.ne_of_lt (HIn.out.h.low q h)⟩
     ·have h':v2.heap.size<=q.block:=h;exact ⟨.inr (by omega),by omega⟩
    have HFl:Hid (∀q,al'=some q->((al=some q∧q.block<w.heap.size)∨vG.heap.size<=q.block)∧q.block≠wr.heap.size):=fun q hq=>by
     rcases hFl q hq with h | h
     ·exact ⟨HA2.out q h,Nat.ne_of_lt (HIn.out.low q h)⟩
     ·have h':v2.heap.size<=q.block:=h;exact ⟨.inr (by omega),by omega⟩
    clear hFr hFl;have n3:Bw v2 v3:=bst ((brf).drew) n3';have L3:Hid _:=ae J3.out n3 (by omega);have L6:Hid _:=ae J6.out n3 (by omega);have LT:Hid _:=ae HT2.out n3 b2T;have OL:=hid (OwnC.keep OJ.out n3 (by omega));have nL:=bst nJ n3;have HIL:=hid hIn3;obtain ⟨X,hX⟩:∃X,aT plain pick ri.h kind q.1=X:=⟨_,rfl⟩;have HX:=hid hX;have hRL:=bP p' al' cl' plain pick (bf plain pick ri kind q.1);have HRo:Hid ((aG p' al' cl' plain pick (bf plain pick ri kind q.1)).all (·.oneCell')=true):=dM _ _ _ _ _ _;have HTs:Hid (∃tv,fZ (aT plain pick ri.h kind q.1).1=.agg tv∧tv.size=2∧tv.all (·.oneCell')=true∧tv[0]?=some (VI X.1.1)∧tv[1]?=some (VU X.1.2)):=by rw [hX];exact ⟨_,rfl,rfl,by simp [Value.oneCell'],rfl,rfl⟩
    obtain ⟨tv,htv,tvs,tvo,tv0,tv1⟩:=HTs.out;clear HTs;rw [htv];refine ⟨_,rfl,fun _=>⟨L3.out,by have:=aQ OL.out _ _ HX1.out;simpa using this⟩,?_⟩;have hF3:v3.heap[w.heap.size]?=some (.cells (aG pi ai ci plain pick ri) 54 (0,0))∧v3.cell? ⟨g,i*3,none⟩=some (VU q.1):=⟨L3.out,by have:=aQ OL.out _ _ HX1.out;simpa using this⟩;generalize hRLe:aG p' al' cl' plain pick (bf plain pick ri kind q.1)=RL at hRL HRo |-;have HRL:Hid _:=hRLe;clear hRLe hX htv hIn3 n3'
    go_frame
    refine fN 8 45 (.tuple #[.agg RL,.agg tv]) rfl (.inr hF3) ?_
    go_frame
    refine fN 9 54 (.agg RL) rfl (.inr hF3) ?_
    go_frame
    refine fN 10 55 (.agg tv) rfl (.inr hF3) ?_
    go_frame
    have gR:=aH w.heap.size RL.toList 0 v3 v3 (ao v3 _);have M3:Hid _:=aI (V:=RL) L3.out (by rw [hRL,hRs]);have M6:Hid _:=qj L6.out gR (show w.heap.size+1≠w.heap.size by omega);have MT:Hid _:=qj LT.out gR (show wr.heap.size≠w.heap.size by omega);have nM:=aK (Nat.le_refl w.heap.size) RL.toList 0 v3 nL;have OM:=hid (OwnC.gb OL.out gR (show g≠w.heap.size by omega));refine dz 11 4 54 rfl (aR (P:=Tryz.prog) (T:=54) (V:=RL) L3.out (by rw [hRL];exact dq) (by rw [hRL,hRs]) HRo.out) ?_;have gT:=aH wr.heap.size tv.toList 0 _ _ (ao (v3.setCells w.heap.size 0 RL.toList) _);have NT:Hid _:=aI (V:=tv) MT.out tvs;have N3:Hid _:=qj M3.out gT (show w.heap.size≠wr.heap.size by omega);have N6:Hid _:=qj M6.out gT (show w.heap.size+1≠wr.heap.size by omega);have nN:=aK (show w.heap.size<=wr.heap.size by omega) tv.toList 0 _ nM;have ON:=hid (OwnC.gb OM.out gT (show g≠wr.heap.size by omega));refine dz 12 13 55 rfl (aR (P:=Tryz.prog) (T:=161) (V:=tv) MT.out (by rw [tvs];exact zY) tvs tvo) ?_;refine dc ?_;have IN:=hid ((HIL.out.gb gR (fun q hq=>by have:=(HFr.out q hq).1;omega) (fun q hq=>by have:=(HFl.out q hq).1;omega)).gb gT (fun q hq=>(HFr.out q hq).2) (fun q hq=>(HFl.out q hq).2));have hVG4:vG.heap.size<=((v3.setCells w.heap.size 0 RL.toList).setCells wr.heap.size 0 tv.toList).heap.size:=by
     rw [cF,cF];have:=n3.size;omega
    generalize (v3.setCells w.heap.size 0 RL.toList).setCells wr.heap.size 0 tv.toList=v4 at NT N3 N6 nN ON IN hVG4 |-;clear L3 L6 LT OL nL HIL M3 M6 MT nM OM gR gT hF hF3 J3 J6 OJ IJ nJ HLr n2 n3 cq HT2;have cT0:=ab NT.out 0 tv0;have cT1:=ab NT.out 1 tv1;have bT4:=(hpl NT.out);by_cases hX0:X.1.1=0
    ·have hst:=HPA.out.step hpk hkd (by rw [HX.out];exact hX0);rw [HX.out] at hst;have HSt:Hid _:=hst;have HX0:=hid hX0;rw [hX0] at cT0 tv0;clear hst hX0;obtain ⟨_,_,y3⟩:=jg _ i q HQ.out;have cg:=aQ ON.out _ _ y3;have fg:=bL ON.out (i*3+2);have O5:Hid (OwnC 243 3 (v4.setCell ⟨g,i*3+2,none⟩ (VU X.1.2)) v1.heap.size g n n (dx ((done++[(q.1,q.2.1,X.1.2)])++rest))):=by
      have:=br ON.out (i*3+2) (VU X.1.2);rw [rz _ i q X.1.2 HQ.out] at this;have e:(done++q::rest).set i (q.1,q.2.1,X.1.2)=(done++[(q.1,q.2.1,X.1.2)])++rest:=by
       rw [<-hdi,List.set_append_right _ _ nle];simp
      rw [e] at this;exact this
     have gG:=au (ao v4 (some g)) (i*3+2) (VU X.1.2);have P3:Hid _:=qj N3.out gG (show w.heap.size≠g by omega);have P6:Hid _:=qj N6.out gG (show w.heap.size+1≠g by omega);have n5:=cH nN (show w.heap.size<=g by omega) (i*3+2) (VU X.1.2);have I5:=hid (IN.out.gb gG (fun q hq=>by have:=(HFr.out q hq).1;omega) (fun q hq=>by have:=(HFl.out q hq).1;omega));have hVG5:vG.heap.size<=(v4.setCell ⟨g,i*3+2,none⟩ (VU X.1.2)).heap.size:=by simp;exact hVG4
     clear y3;go_wp2;go_roundw
     case rel=>exact ⟨i+1,bf plain pick ri kind q.1,p',al',cl',done++[(q.1,q.2.1,X.1.2)],rest,by go_num,by simp [hdi],by simp at hdr |-;omega,HSt.out,by rw [HRL.out];exact P3.out,P6.out,O5.out,I5.out,fun q hq=>(HFr.out q hq).1,fun q hq=>(HFl.out q hq).1,hVG5,n5⟩
     case measure=>simp [intOf];omega
    ·have HTR:Hid (aw plain pick r kind va wd=ag plain pick kind r cut∧(ag plain pick kind r cut).1=bI (bf plain pick ri kind q.1) X.1.1 q.1):=by
      have ht:=HPA.out.trap (by rw [HX.out];exact hX0);rw [HX.out] at ht;refine ⟨?_,ht⟩;unfold aw;rw [HC.out,if_neg (by rw [ht];exact hX0)]
     have hX0':(X.1.1 != 0)=true:=by simpa using hX0
     have HX0:=hid hX0;clear hX0;go_upto_region 11 with fail;have hF6:v4.drew.heap[w.heap.size]?=some (.cells RL 54 (0,0))∧v4.drew.cell? ⟨g,i*3,none⟩=some (VU q.1)∧v4.drew.heap[wr.heap.size]?=some (.cells tv 161 (0,0)):=⟨N3.out,by have:=aQ ON.out _ _ HX1.out;simpa using this,NT.out⟩;have HLr2:=hid fun (u:World) (hu:u.heap[w.heap.size]?=some (.cells RL 54 (0,0)))=>aW (P:=Tryz.prog) (T:=54) hu Tryz.underlying54 rfl (by rw [hRL];exact dq);have HLc:Hid (∀u:World,u.heap[wr.heap.size]?=some (.cells tv 161 (0,0))->(Instr.loadAt 2 (PT wr.heap.size 0)).run Tryz.prog u=.ok (VI X.1.1) u):=fun u hu=>by
      have:=ab hu 0 tv0;go_simp
     have HTp:Hid (∀u,Calls Tryz.prog 67 #[.agg RL,VI X.1.1,VU q.1] u fun e w'=>e=.returned (.agg (aG p' al' cl' plain pick (bI (bf plain pick ri kind q.1) X.1.1 q.1)))∧Bw u w'):=fun u=>by
      rw [<-HRL.out];exact jE p' al' cl' plain pick _ _ _ u
     have hRT:=bP p' al' cl' plain pick (bI (bf plain pick ri kind q.1) X.1.1 q.1);have HRTo:Hid ((aG p' al' cl' plain pick (bI (bf plain pick ri kind q.1) X.1.1 q.1)).all (·.oneCell')=true):=dM _ _ _ _ _ _;generalize hRTe:aG p' al' cl' plain pick (bI (bf plain pick ri kind q.1) X.1.1 q.1)=RT at HTp hRT HRTo;have HRT:Hid _:=hRTe;clear hRTe;refine ax (fun u=>u.heap[w.heap.size]?=some (.cells RL 54 (0,0))∧u.cell? ⟨g,i*3,none⟩=some (VU q.1)∧u.heap[wr.heap.size]?=some (.cells tv 161 (0,0))) 10 ?_;refine aj 0 59 (.agg RL) rfl hF6 ?_ (hy:=fun u hu=>aD rfl (HLr2.out u hu.1));refine aj 1 60 (PT wr.heap.size 0) rfl hF6 ?_
     go_frame
     refine aj 2 61 (VI X.1.1) rfl hF6 ?_ (hy:=fun u hu=>aD rfl (HLc.out u hu.2.2));refine aj 3 62 (SL g n n) rfl hF6 ?_;refine aj 4 63 (VI i) rfl hF6 ?_
     go_frame
     refine aj 5 64 (.pointer (some ⟨g,i*3,none⟩)) rfl hF6 ?_ (hy:=fun u hu=>(by have h1:=hIlt;have h2:=hI0;go_simp));refine aj 6 65 (.pointer (some ⟨g,i*3,none⟩)) rfl hF6 ?_
     go_frame
     refine aj 7 66 (VU q.1) rfl hF6 ?_ (hy:=fun u hu=>aD rfl (HLq.out u hu.2.1))
     go_frame
     refine fN 9 68 (SL g n n) rfl (.inr hF6) ?_
     go_frame
     refine du 8 67 rfl (f:=67) (args:=#[.agg RL,VI X.1.1,VU q.1]) ?_;refine (HTp.out v4.drew).mono ?_;rintro e v6 ⟨rfl,n6'⟩;have n6:Bw v4 v6:=bst ((brf).drew) n6';have b64:=(hpl N6.out);have R6:Hid _:=ae N6.out n6 b64;have n7:=bst nN n6;have I6:=hid (IN.out.keep n6);refine ⟨_,rfl,fun _=>⟨ae N3.out n6 (by omega),by have:=aQ (OwnC.keep ON.out n6 (by omega)) _ _ HX1.out;simpa using this,ae NT.out n6 bT4⟩,?_⟩
     go_frame
     have gS:=aH (w.heap.size+1) RT.toList 0 v6 v6 (ao v6 _);have e1:=aI (V:=RT) R6.out (by rw [hRT,aS]);have e2:=aK (show w.heap.size<=w.heap.size+1 by omega) RT.toList 0 v6 n7;refine dz 10 8 67 rfl (aR (P:=Tryz.prog) (T:=54) (V:=RT) R6.out (by rw [hRT];exact dq) (by rw [hRT,aS]) HRTo.out) ?_;refine fN 11 9 (SL g n n) rfl (.inl (by kernel_rfl)) ?_
     go_frame
     refine dc ?_;go_wp2_with fail;refine ta (b:=w.heap.size+1) (W:=SL g n n) Tryz.results95 rfl rfl (bC (P:=Tryz.prog) e1 Tryz.underlying54 rfl (by rw [hRT];exact dq)) rfl ?_;have k6:=I6.out.gb gS (fun q hq=>by have:=(HFr.out q hq).1;omega) (fun q hq=>by have:=(HFl.out q hq).1;omega);rw [HTR.out.1,HTR.out.2];exact ⟨⟨p',al',cl',some (AD g 0),n,n,by rw [HRT.out],⟨k6.h,k6.looks,k6.lookc,k6.looka,k6.lookl,k6.low⟩,fun q hq=>(HFr.out q hq).1.imp And.left (fun h=>Nat.le_trans (by omega) h),fun q hq=>(HFl.out q hq).1.imp And.left (fun h=>Nat.le_trans (by omega) h),fun h=>absurd h HX0.out⟩,e2⟩
theorem lF (mem:List Int):∀(ds:List bw) (q:bw),cE mem (ds++[q])=cE mem ds++(mem.drop q.2.2.toNat).take q.2.1.toNat
 | [],q=>by simp [cE]
 | d::ds,q=>by simp [cE,lF mem ds q]
theorem tQ:∀(ds:List bw) (qs:List bw),iF (ds++qs)=iF ds+iF qs
 | [],qs=>by simp [iF]
 | d::ds,qs=>by simp only [List.cons_append,iF,tQ ds qs];omega
theorem uH:∀(qs:List bw),dZ qs->0<=iF qs
 | [],_=>Int.le_refl _
 | q::qs,h=>by
  have h1:=(h q (List.mem_cons_self ..)).2.1.1;have h2:=uH qs fun x hx=>h x (List.mem_cons_of_mem _ hx);simp only [iF];omega
theorem tR (mb mo len mc g n c:Nat) (mem:List Int) (ps:List bw) (w:World) (hm:Byt w (some (AD mb mo)) len mem) (hl:len<=1048576) (hc:len<=mc) (hmc:mc<=9223372036854775807)
 (hp:RowC w (some (AD g 0)) n 3 (dx ps)) (hn:ps.length=n) (hn2:n<=2) (hok:dZ ps) (hin:∀p∈ps,fD len p.2.2 p.2.1=true) (hle:iF ps<=8):
 Calls Tryz.prog 96 #[.slice (some (AD mb mo)) len mc,SL g n c] w fun e w'=>e=.returned (VU (iS mem ps))∧Bw w w':=by
 have HM:Hid _:=hm;have HP:Hid _:=hp;have HO:Hid _:=hok;have HI:Hid _:=hin;have HN:Hid _:=hn;have HLe:Hid _:=hle;have hml:=hm.1;clear hm hp hok hin hn hle;go_enter Tryz.func96,Tryz.ntmps96;go_wp2_with fail;have o1:Hid _:=OwnB.new 5 w [] 0 rfl (by decide);have n1:Bw w (w.alloc (Obj.cells #[] 5)):=(brf).alloc nle _;go_loopw [5,6] (fun bv iv wr=>∃(i bg bn bc:Nat) (done rest:List bw),bv=SL bg bn bc∧iv=VI i∧done.length=i∧ps=done++rest∧OwnB 5 wr w.heap.size bg bn bc (cE mem done)∧Bw w wr) (fun _ iv _=>n-(intOf iv).toNat)
 case atStart=>exact ⟨0,_,_,_,[],ps,rfl,rfl,rfl,rfl,o1.out,n1⟩
 case round=>
  clear o1 n1;obtain ⟨i,bg,bn,bc,done,rest,rfl,rfl,hdi,hps,hO,hB⟩:=hrel;have HO':=hid hO;have HPs:Hid _:=hps;have hlen:=HN.out;rw [hps,List.length_append] at hlen;have hdn:dZ done:=fun x hx=>HO.out x (by rw [hps];exact List.mem_append_left _ hx);have hrn:dZ rest:=fun x hx=>HO.out x (by rw [hps];exact List.mem_append_right _ hx);have hle1:=HLe.out;rw [hps,tQ] at hle1;have hpl:=jS mem done hdn;have hbn:=hO.facts.1;have hrl:=uH rest hrn;have hbn8:bn<=8:=by omega
  have hf1:bn<=bc:=by have:=hO.facts;omega
  have hf2:bc<=9223372036854775807:=by have:=hO.facts;simp only [maxLen] at this;omega
  cases rest with
  | nil=>
   have hin:i=n:=by simp at hlen;omega
   have HD:Hid (ps=done):=by rw [hps,List.append_nil];exact rfl
   have hby:=hid (hO.byt (bU (iW HM.out.2.1 done)));clear hps hO hlen hle1 hdn hrn hpl hrl;subst hin;go_wp2_with fail;refine (kG _ _ _ _ _ hby.out hbn8 hf1 hf2).mono ?_;rintro e w' ⟨rfl,nq,rfl⟩;go_wp2;go_ret;exact ⟨by rw [HD.out];rfl,below_drewN hB nq⟩
  | cons q rest=>
   have hqm:q∈ps:=by rw [hps];exact List.mem_append_right _ (List.mem_cons_self ..)
   have hqi:=HI.out q hqm;have hqo:=HO.out q hqm;obtain ⟨qv,qn,qp⟩:=q;obtain ⟨hq1,hq2,hq3⟩:=hqo;obtain ⟨m,rfl⟩:=Int.eq_ofNat_of_zero_le (show 0<=qn by simp only at hq2;omega);obtain ⟨k,rfl⟩:=Int.eq_ofNat_of_zero_le (show 0<=qp from hq3.1);simp only [fD,decide_eq_true_eq] at hqi;have hm1:1<=m:=by simp only at hq2;omega
   have hm8:m<=8:=by simp only at hq2;omega
   have hkm:k+m<=len:=by omega
   have hil:i<n:=by simp at hlen;omega
   have hpi:ps[i]?=some (qv,(m:Int),(k:Int)):=by rw [hps,<-hdi];simp
   obtain ⟨x1,x2,x3⟩:=jg ps i _ hpi;have x2':=HP.out.2;rcases x2' with x2' | ⟨b',off',hx,hlt,hcell⟩
   ·omega
   cases hx;have hgw:=ltl hlt hB.size;have y2:wr.cell? ⟨g,i*3+1,none⟩=some (VI m):=by have:=Below.cell2 hB (hcell _ _ x2) hlt;rwa [Nat.zero_add] at this
   have y3:wr.cell? ⟨g,i*3+2,none⟩=some (VU k):=by have:=Below.cell2 hB (hcell _ _ x3) hlt;rwa [Nat.zero_add] at this
   have xm:Hid (Byt wr (some ⟨mb,mo+k,none⟩) (k+m-k) ((mem.drop k).take m)):=by
    rw [Nat.add_sub_cancel_left];have h1:=(Byt.keep HM.out hB).drop k (len-k) (by omega) rfl (some ⟨mb,mo+k,none⟩) (fun _=>rfl);exact h1.take m (by omega)
   have hck:k<mc:=by omega
   have hcm:k+m<=mc:=by omega
   have hBn:bn+(k+m-k)<=2147483648:=by omega
   have HBn:Hid _:=hBn;clear hps hO hlen hle1 hdn hrn hpl hrl x1 x2 x3 hcell hqi hq1 hq2 hq3 hpi hqm hbn;go_wp2_with (at_builtin;refine dC _ rfl (.tmp 21) (.tmp 31) 22 rfl 5 Tryz.underlying22 Tryz.infoB w.heap.size _ _ _ _ rfl HO'.out mb (mo+k) (k+m-k) _ _ rfl xm.out HBn.out _ _ hB nle ?_;intro g2 cap2 v2 o2 n2);have o3:OwnB 5 v2 w.heap.size g2 (bn+m) cap2 (cE mem (done++[(qv,(m:Int),(k:Int))])):=by
    rw [lF];have:=o2;rw [Nat.add_sub_cancel_left] at this;exact this
   refine ⟨⟨i+1,g2,bn+m,cap2,done++[(qv,(m:Int),(k:Int))],rest,rfl,rfl,by rw [List.length_append,hdi];rfl,by rw [HPs.out];simp,o3,n2⟩,?_⟩;simp only [intOf];omega
theorem tS (mb mo len mc g n c wd:Nat) (x:Int) (mem:List Int) (ps:List bw) (w:World) (hm:Byt w (some (AD mb mo)) len mem) (hmb:mb<w.heap.size) (hl:len<=1048576) (hc:len<=mc) (hmc:mc<=9223372036854775807)
 (hp:RowC w (some (AD g 0)) n 3 (dx ps)) (hn:ps.length=n) (hn2:n<=2) (hok:dZ ps) (hin:∀p∈ps,fD len p.2.2 p.2.1=true) (hle:iF ps=wd) (hw8:wd<=8) (hx:inU x):
 Calls Tryz.prog 97 #[.slice (some (AD mb mo)) len mc,SL g n c,VI wd,VU x] w fun e w'=>(∃b o cp,e=.returned (.slice (some (AD b o)) len cp)∧Byt w' (some (AD b o)) len (iN mem ps (bM x wd))∧(len<=cp∧cp<=9223372036854775807)∧b<w'.heap.size∧((b=mb∧o=mo)∨w.heap.size<=b))∧Bw w w':=by
 have HM:=hid hm;have HP:=hid hp;have HO:=hid hok;have HI:Hid _:=hin;have HN:Hid _:=hn;have HLe:Hid _:=hle;have HC:Hid (len<=mc∧mc<=9223372036854775807):=⟨hc,hmc⟩;clear hm hp hok hin hn hle hc hmc;go_enter Tryz.func97,Tryz.ntmps97;go_wp2_with fail;refine (xW wd x w hw8 hx.1 hx.2).mono ?_;rintro e v1 ⟨g1,c1,rfl,o1,n1⟩;have O1:=hid o1;clear o1;go_wp2;go_loopw [0,9,10] (fun mv bv iv wr=>∃(i mb' mo' mc' bg bo bl bc:Nat) (mi bi:List Int) (done rest:List bw),mv=.slice (some (AD mb' mo')) len mc'∧bv=.slice (some (AD bg bo)) bl bc∧iv=VI i∧done.length=i∧ps=done++rest∧iN mem ps (bM x wd)=iN mi rest bi∧Byt wr (some (AD mb' mo')) len mi∧(len<=mc'∧mc'<=9223372036854775807)∧mb'<wr.heap.size∧((mb'=mb∧mo'=mo)∨w.heap.size<=mb')∧Byt wr (some (AD bg bo)) bl bi∧(bl<=bc∧bc<=9223372036854775807)∧iF rest=bl∧Bw w wr) (fun _ _ iv _=>n-(intOf iv).toNat)
 case atStart=>
  have hf:=OwnB.facts O1.out;simp only [maxLen] at hf;exact ⟨0,mb,mo,mc,g1,0,wd,c1,mem,bM x wd,[],ps,rfl,rfl,rfl,rfl,rfl,rfl,Byt.keep HM.out n1,HC.out,ltl hmb n1.size,.inl ⟨rfl,rfl⟩,OwnB.byt O1.out (bU (eB wd x)),by omega,HLe.out,n1⟩
 case round=>
  clear O1 n1;obtain ⟨i,mb',mo',mc',bg,bo,bl,bc,mi,bi,done,rest,rfl,rfl,rfl,hdi,hps,hset,hmi,⟨hc1,hc2⟩,hmlt,hmlo,hbi,⟨hbc1,hbc2⟩,hlr,hB⟩:=hrel;have HPs:Hid (ps=done++rest):=hps;have HSet:=hid hset;have HMi:=hid hmi;have HBi:Hid (Byt wr (some (AD bg bo)) bl bi):=hbi;have hlen:=HN.out;rw [hps,List.length_append] at hlen;cases rest with
  | nil=>
   have hin:i=n:=by simp at hlen;omega
   clear hps hset hmi hbi hlen;subst hin;go_wp2;go_ret;exact ⟨⟨mb',mo',mc',rfl,by rw [HSet.out];exact HMi.out,⟨hc1,hc2⟩,hmlt,hmlo⟩,hB⟩
  | cons q rest=>
   have hqm:q∈ps:=by rw [hps];exact List.mem_append_right _ (List.mem_cons_self ..)
   have hqi:=HI.out q hqm;have hqo:=HO.out q hqm;have hrn:dZ rest:=fun z hz=>HO.out z (by rw [hps];exact List.mem_append_right _ (List.mem_cons_of_mem _ hz));have hrl:=uH rest hrn;obtain ⟨qv,qn,qp⟩:=q;obtain ⟨hq1,hq2,hq3⟩:=hqo;obtain ⟨m,rfl⟩:=Int.eq_ofNat_of_zero_le (show 0<=qn by simp only at hq2;omega);obtain ⟨k,rfl⟩:=Int.eq_ofNat_of_zero_le (show 0<=qp from hq3.1);simp only [fD,decide_eq_true_eq] at hqi;simp only [iF] at hlr;have hm1:1<=m:=by simp only at hq2;omega
   have hm8:m<=8:=by simp only at hq2;omega
   have hkm:k+m<=len:=by omega
   have hkw:(k:Int)<=1048576:=by omega
   have HWk:Hid (IntKind.i64.wrap (k:Int)=k):=by show _=_;unfold IntKind.wrap;simp [IntKind.bits,IntKind.signed];omega
   have hmb:m<=bl:=by omega
   have hil:i<n:=by simp at hlen;omega
   have hi0:i<=2:=by omega
   have hpi:ps[i]?=some (qv,(m:Int),(k:Int)):=by rw [hps,<-hdi];simp
   obtain ⟨x1,x2,x3⟩:=jg ps i _ hpi;have x2':=HP.out.2;rcases x2' with x2' | ⟨b',off',hxx,hlt,hcell⟩
   ·omega
   cases hxx;have hgw:g<wr.heap.size:=ltl hlt hB.size;have y2:wr.cell? ⟨g,i*3+1,none⟩=some (VI m):=by have:=Below.cell2 hB (hcell _ _ x2) hlt;rwa [Nat.zero_add] at this
   have y3:wr.cell? ⟨g,i*3+2,none⟩=some (VU k):=by have:=Below.cell2 hB (hcell _ _ x3) hlt;rwa [Nat.zero_add] at this
   have HLm:Hid (∀u:World,u.cell? ⟨g,i*3+1,none⟩=some (VI m)->(Instr.loadAt 2 (.pointer (some ⟨g,i*3+1,none⟩))).run Tryz.prog u=.ok (VI m) u):=fun u hu=>by go_simp
   have HLk:Hid (∀u:World,u.cell? ⟨g,i*3+2,none⟩=some (VU k)->(Instr.loadAt 33 (.pointer (some ⟨g,i*3+2,none⟩))).run Tryz.prog u=.ok (VU k) u):=fun u hu=>by go_simp
   have HLr:Hid ((m:Int)+iF rest=bl):=hlr;have hbil:=hbi.1;clear hps hset hmi hbi hlen hrn x1 x2 x3 hcell hqi hq1 hq2 hq3 hpi hqm hlr;have hF:wr.drew.cell? ⟨g,i*3+1,none⟩=some (VI m)∧wr.drew.cell? ⟨g,i*3+2,none⟩=some (VU k):=⟨by simpa using y2,by simpa using y3⟩;go_upto_region 5 with fail;refine ax (fun u=>u.cell? ⟨g,i*3+1,none⟩=some (VI m)∧u.cell? ⟨g,i*3+2,none⟩=some (VU k)) 14 ?_;refine aj 0 20 (.slice (some (AD mb' mo')) len mc') rfl hF ?_;refine aj 1 21 (SL g n c) rfl hF ?_;refine aj 2 22 (VI i) rfl hF ?_
   go_frame
   refine aj 3 23 (.pointer (some ⟨g,i*3,none⟩)) rfl hF ?_ (hy:=fun u hu=>(by have h1:=hil;have h2:=hi0;go_simp));refine aj 4 24 (.pointer (some ⟨g,i*3+2,none⟩)) rfl hF ?_
   go_frame
   refine aj 5 25 (VU k) rfl hF ?_ (hy:=fun u hu=>aD rfl (HLk.out u hu.2))
   go_frame
   refine aj 6 26 (VI k) rfl hF ?_ (hy:=fun u hu=>(by have h1:=HWk.out;go_simp));refine aj 7 27 (.slice (some (AD bg bo)) bl bc) rfl hF ?_;refine aj 8 28 (SL g n c) rfl hF ?_;refine aj 9 29 (VI i) rfl hF ?_
   go_frame
   refine aj 10 30 (.pointer (some ⟨g,i*3,none⟩)) rfl hF ?_ (hy:=fun u hu=>(by have h1:=hil;have h2:=hi0;go_simp));refine aj 11 31 (.pointer (some ⟨g,i*3+1,none⟩)) rfl hF ?_
   go_frame
   refine aj 12 32 (VI m) rfl hF ?_ (hy:=fun u hu=>aD rfl (HLm.out u hu.1))
   go_frame
   refine aj 13 33 (.slice (some (AD bg bo)) m bc) rfl hF ?_ (hy:=fun u hu=>(by have h1:=hmb;have h2:=hbc1;have h3:=hbc2;go_simp;intro h;omega))
   go_frame
   refine du 14 34 rfl (f:=125) (args:=#[.slice (some (AD mb' mo')) len mc',VI k,.slice (some (AD bg bo)) m bc]) ?_;have nD:=bdr wr;refine (BJ mb' mo' len mc' k bg bo m bc mi (bi.take m) wr.drew (Byt.keep HMi.out nD) ((Byt.keep HBi.out nD).take m hmb) hl hkm hc1 hc2).mono ?_;rintro e v2 ⟨g2,c2,rfl,o2,n2'⟩;refine ⟨_,rfl,fun h=>absurd h (by decide),?_⟩
   go_frame
   refine fN 15 0 (SL g2 len c2) rfl (.inl (by kernel_rfl)) ?_;simp only [Act.put,List.setIfInBounds_toArray,List.set_cons_zero];refine dc ?_;have n2:Bw wr v2:=bst nD n2';have nF:=bst hB n2;have z2:v2.cell? ⟨g,i*3+1,none⟩=some (VI m):=Below.cell2 n2 y2 hgw;have O2:Hid (OwnB 5 v2 wr.drew.heap.size g2 len c2 (mi.take k++bi.take m++mi.drop (k+m))):=o2;have hf2:=o2.facts;have hg2:wr.heap.size<=g2:=hf2.2.1;have hg3:g2<v2.heap.size:=hf2.2.2.1;have hc3:len<=c2:=hf2.2.2.2.1;have hc4:c2<=9223372036854775807:=by have:=hf2.2.2.2.2;simp only [maxLen] at this;omega
   have hwl:=hB.size;clear o2 n2' hF hf2;have HSt:Hid (iN mem ps (bM x wd)=iN (mi.take k++bi.take m++mi.drop (k+m)) rest (bi.drop m)):=by
    show _=_;rw [HSet.out,iN];simp only [Int.toNat_natCast];unfold put;rw [List.length_take,hbil,Nat.min_eq_left hmb]
   have hln:iF rest=((bl-m:Nat):Int):=by have:=HLr.out;omega
   have HLn:Hid (iF rest=((bl-m:Nat):Int)):=hln;have BM:Hid (Byt v2 (some (AD g2 0)) len (mi.take k++bi.take m++mi.drop (k+m))):=OwnB.byt O2.out (by
    have hz:∀z∈mi.take k++bi.take m++mi.drop (k+m),0<=z∧z<=255:=fun z hz=>by
     rcases List.mem_append.1 hz with hz | hz
     ·rcases List.mem_append.1 hz with hz | hz
      ·exact gx HMi.out.2.1 z (List.mem_of_mem_take hz)
      ·exact gx HBi.out.2.1 z (List.mem_of_mem_take hz)
     ·exact gx HMi.out.2.1 z (List.mem_of_mem_drop hz)
    exact bU hz)
   clear hln O2 hbil;by_cases hcc:bc=m
   ·subst hcc;have hble:bl=bc:=by omega
    have BB:Hid (Byt v2 (some (AD bg bo)) (bl-bc) (bi.drop bc)):=Byt.keep (HBi.out.drop bc (bl-bc) hmb rfl (some (AD bg bo)) (fun h=>by omega)) n2;go_wp2_with fail;refine ⟨⟨i+1,g2,0,c2,bg,bo,bl-bc,bc-bc,mi.take k++bi.take bc++mi.drop (k+bc),bi.drop bc,done++[(qv,((bc:Nat):Int),(k:Int))],rest,rfl,by rw [hble,Nat.sub_self],rfl,by rw [List.length_append,hdi];rfl,by rw [HPs.out];simp,HSt.out,BM.out,⟨hc3,hc4⟩,hg3,.inr (by omega),BB.out,by omega,HLn.out,nF⟩,?_⟩;simp only [intOf];omega
   ·have hmc:m<bc:=by omega
    clear hcc;have BB:Hid (Byt v2 (some ⟨bg,bo+m,none⟩) (bl-m) (bi.drop m)):=Byt.keep (HBi.out.drop m (bl-m) hmb rfl (some ⟨bg,bo+m,none⟩) (fun h=>rfl)) n2;go_wp2_with fail;refine ⟨⟨i+1,g2,0,c2,bg,bo+m,bl-m,bc-m,mi.take k++bi.take m++mi.drop (k+m),bi.drop m,done++[(qv,((m:Nat):Int),(k:Int))],rest,rfl,rfl,rfl,by rw [List.length_append,hdi];rfl,by rw [HPs.out];simp,HSt.out,BM.out,⟨hc3,hc4⟩,hg3,.inr (by omega),BB.out,by omega,HLn.out,nF⟩,?_⟩;simp only [intOf];omega
section
attribute [local go_sem ↓] Go.wp_at_zero Go.wp_at_succ
def Ge:Prop:=∀(v:Value) (t:TlbM) (k:Int) (w:World),TlbAt w v t->0<t.es.length->(0<=k∧k<=255)->Calls Tryz.prog 31 #[v,VI k] w fun e w'=>(∃x,e=.returned x∧TlbOwn w.heap.size w' x (bh t k))∧Bw w w'
end
end Go.Proofs.YthdgiakgepmabaaGreat
