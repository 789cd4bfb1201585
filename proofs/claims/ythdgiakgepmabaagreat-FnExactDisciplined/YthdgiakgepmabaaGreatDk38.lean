import Derived.Test.YthdgiakgepmabaaGreatDk37
import Derived.Test.YthdgiakgepmabaaGreatDk34
namespace Go.Proofs.YthdgiakgepmabaaGreat
open Go.RowKit
set_option linter.unusedVariables false
set_option maxHeartbeats 6400000
set_option maxRecDepth 20000
section
attribute [local go_sem ↓] Go.wp_at_zero Go.wp_at_succ
def Aa (gs:List ay):Prop:=∀g∈gs,0<=g.2.2.2.1∧g.2.2.2.1<=2
theorem yN {h:HartM} {kind va:Int}:∀{rs:List aP} {gs:List ay},Aa gs->(∀r∈rs,0<=r.1∧r.1<=2)->Aa (dJ h kind va rs gs)
 | [],gs,hg,_=>hg
 | r::rs,gs,hg,hr=>by
  rw [dJ];refine yN ?_ (fun x hx=>hr x (List.mem_cons_of_mem _ hx));split
  ·unfold qc;split
   ·exact hg
   ·intro g hm;rcases List.mem_append.1 hm with hm | hm
    ·exact hg g hm
    ·have:g=fj va h.satp r:=by simpa using hm
     subst this;exact hr r (List.mem_cons_self ..)
  ·exact hg
theorem Cq {gs:List ay} {h:HartM} {l:Int × Int} (hz:∀i:Nat,0<=h.mem[i]?.getD 0∧h.mem[i]?.getD 0<=255) (hg:Aa gs):Aa (cV gs h l).2∧(cV gs h l).2.length<=gs.length+3:=by
 have wb:=AQ h.mem h.satp l.2 hz;unfold cV;split
 ·exact ⟨hg,by simp⟩
 ·split
  ·refine ⟨yN hg fun r hr=>(wb.2 r hr).1,?_⟩;have:=tr h l.1 l.2 (bD h.mem h.satp l.2).2.2.2 gs;have:=wb.1;simp only;omega
  ·exact ⟨hg,by simp⟩
theorem Cr {gs:List ay} {f:FenceM} (hg:Aa gs):Aa (dt gs f):=fun g hm=>hg g (List.mem_filter.1 hm).1
theorem yO:∀(ls:List (Int × Int)) (k:Nat) (l:Int × Int),ls[k]?=some l->(fu ls)[k*2]?=some (VI l.1)∧(fu ls)[k*2+1]?=some (VU l.2)
 | x::ls,0,l,h=>by
  simp at h;subst h;simp [fu]
 | x::ls,k+1,l,h=>by
  have ih:=yO ls k l (by simpa using h);have e0:(k+1)*2=k*2+2:=by omega
  rw [e0];simpa [fu] using ih
theorem tu (h:HartM):∀(ls:List (Int × Int)) (k:Nat) (gs:List ay),(aZ h (ls.take k) gs).1=false->(aZ h ls gs).1=false
 | [],k,gs,hh=>by simpa using hh
 | l::ls,0,gs,hh=>by simp [aZ] at hh
 | l::ls,k+1,gs,hh=>by
  rw [List.take_succ_cons,aZ] at hh;rw [aZ];by_cases c:(cV gs h l).1=true
  ·rw [if_pos c] at hh |-;exact tu h ls k _ hh
  ·rw [if_neg c]
structure DisS (w wr:World) (b3 b4:Nat) (S:Array Value) (pa:Option Addr) (pc:Nat) (ps:List Int) (q:PtrM) (h:HartM):Prop where
 n:Bw w wr
 h2:wr.heap[w.heap.size]?=some (.cells #[.bool false,VI 0] 24 (0,0))
 h3:wr.heap[b3]?=some (.cells S 47 (0,0))
 pk:wr.ownsRow w.heap.size 2 1 (.slice pa ps.length pc) ps.length (cL ps)
 h4:wr.heap[b4]?=some (.cells (ak q h) 44 (0,0))
 hi:HartIn wr q h
 ok:HOk h
 ne:∀x,some x∈be q->x.block≠w.heap.size∧x.block≠b4
theorem DisS.keep {w wr v:World} {b3 b4:Nat} {S:Array Value} {pa:Option Addr} {pc:Nat} {ps:List Int} {q:PtrM} {h:HartM} (k:DisS w wr b3 b4 S pa pc ps q h) (hb:Bw wr v):DisS w v b3 b4 S pa pc ps q h:=
 ⟨bst k.n hb,ae k.h2 hb (hpl k.h2),ae k.h3 hb (hpl k.h3),aq k.pk hb,ae k.h4 hb (hpl k.h4),k.hi.keep hb,k.ok,k.ne⟩
theorem DisS.next {w wr:World} {b3 b4:Nat} {S:Array Value} {pa:Option Addr} {pc:Nat} {ps:List Int} {q q':PtrM} {h h':HartM} (k:DisS w wr b3 b4 S pa pc ps q h) (hi:HartIn wr q' h') (ok:HOk h') (hne:∀x,some x∈be q'->x.block≠w.heap.size∧x.block≠b4) (n3:b3≠b4) (l4:w.heap.size<b4):
 DisS w (wr.setCells b4 0 (ak q' h').toList) b3 b4 S pa pc ps q' h':=by
 have g:=aH b4 (ak q' h').toList 0 wr _ (ao _ _);exact ⟨aK (by omega) _ _ _ k.n,aA k.h2 g (by omega),aA k.h3 g n3,cP k.pk k.h4 (by decide) g,aI k.h4 rfl,hi.gb g (fun x hx=>(hne x hx).2),ok,hne⟩
structure GhS (wr:World) (B b4 gg:Nat) (gs:List ay):Prop where
 row:RowC wr (some (AD gg 0)) gs.length 6 (iq gs)
 lev:Aa gs
 ne:B<gg∧gg≠b4
theorem GhS.keep {wr v:World} {B b4 gg:Nat} {gs:List ay} (k:GhS wr B b4 gg gs) (hb:Bw wr v):GhS v B b4 gg gs:=⟨k.row.keep hb,k.lev,k.ne⟩
theorem yP:(Tryz.prog.info? 24).map (·.size)=some 2:=by kernel_rfl
set_option maxHeartbeats 25600000 in
theorem yQ (a:Option Addr) (len cap:Nat) (zs:List Int) (w:World) (hB:Byt w a len zs) (hl:len<=1048576):
 Calls Tryz.prog 5 #[.slice a len cap] w fun e w'=>e=.returned (.agg #[.bool (hU (bE zs) (aJ zs) [] 0).1,VI ((hU (bE zs) (aJ zs) [] 0).2:Int)])∧Bw w w':=by
 have hok:=qY hB.2.1;have pl:(bE zs).length<=20000:=by
  simp only [bE,List.length_map,List.length_range,iU];omega
 have PB:Hid (∀y∈bE zs,0<=y∧y<=255):=oX hB.2.1;have CS:Hid (∀u,Bw w u->Calls Tryz.prog 13 #[.slice a len cap] u (pH u (aJ zs) (bE zs))):=fun u hu=>rF a len cap zs u (hB.keep hu) hl;clear hB hl;generalize aJ zs=h0 at *;generalize bE zs=ps at *;obtain ⟨R,hR⟩:∃R,hU ps h0 [] 0=R:=⟨_,rfl⟩;have HR:=hid hR;rw [hR];clear hR;have HOK:Hid (HOk h0):=hok;clear hok;go_enter Tryz.func5,Tryz.ntmps5;go_upto_region 1 with fail;obtain ⟨u0,Eu0,n0,H2,l0⟩:=al1 w #[.bool false,VI 0] 24;rw [Eu0.out];clear Eu0;go_wp2_with fail;refine (CS.out u0 n0).mono ?_;rintro e v1 ⟨⟨p,pa,pc,rfl,hi,hge,op⟩,n1⟩;have s1:=n1.size;have HI:Hid _:=hi;have HG:Hid (∀x,some x∈be p->w.heap.size<x.block∧x.block<v1.heap.size):=fun x hx=>⟨by have:=hge x hx;omega,hi.low x hx⟩;have OP:Hid (v1.ownsRow w.heap.size 2 1 (.slice pa ps.length pc) ps.length (cL ps)):=bS op n0.size;replace H2:=ah H2 n1;replace n0:=bst n0 n1;clear hi hge op n1;obtain ⟨v2,hs2,P2,l2,n2⟩:=sq v1 (cy p pa pc h0 ps) rfl (jH _ _ _ _ _);have SH:Hid _:=sR p pa pc h0 ps;have SP:Hid _:=sS p pa pc h0 ps;have HS2:Hid _:=hs2;generalize cy p pa pc h0 ps=S at *;have H3:Hid _:=P2;replace H2:=ah H2 n2;replace n0:=bst n0 n2;replace HI:Hid _:=HI.out.keep n2;replace OP:Hid _:=aq OP.out n2;clear hs2 P2 n2;go_upto_region 2 with (first | ((with_reducible refine az ?_ ?_ HS2.out ?_);(exact rfl);(exact rfl)));clear HS2;have J5:Hid _:=eA (P:=Tryz.prog) (T:=44) H3.out Tryz.underlying44 rfl (o:=0) (ak p h0).toList fy SH.out rfl;rw [show (ak p h0).toList.toArray=ak p h0 from rfl] at J5;obtain ⟨v3,hs3,P3,l3,n3⟩:=BA v2 (ak p h0) rfl (gF _ _);have HS3:Hid _:=hs3;have H4:Hid _:=P3;obtain ⟨A0,hA0⟩:∃A,ak p h0=A:=⟨_,rfl⟩;have EA:Hid _:=hA0;rw [hA0] at J5 HS3;replace H2:=ah H2 n3;replace H3:=ah H3 n3;replace n0:=bst n0 n3;replace HI:Hid _:=HI.out.keep n3;replace OP:Hid _:=aq OP.out n3;have s3:=n3.size;clear hs3 P3 n3 hA0;go_upto_region 3 with (first | ((with_reducible refine bj ?_ J5.out ?_);(exact rfl)) | ((with_reducible refine az ?_ ?_ HS3.out ?_);(exact rfl);(exact rfl)));clear J5 HS3 EA;go_upto_region 4 with fail;obtain ⟨v4,Ev4,n4,_,z4⟩:=al1 v3 #[] 120;rw [Ev4.out];have K0:Hid (DisS w v4 v1.heap.size v2.heap.size S pa pc ps p h0):=⟨bst n0 n4,(ah H2 n4).out,(ah H3 n4).out,aq OP.out n4,(ah H4 n4).out,HI.out.keep n4,HOK.out,fun x hx=>by
  have:=HG.out x hx;exact ⟨by omega,by omega⟩⟩
 have G0:Hid (GhS v4 w.heap.size v2.heap.size v3.heap.size []):=⟨⟨rfl,.inl rfl⟩,fun g hg=>(by cases hg),⟨by omega,by omega⟩⟩;have b34:v1.heap.size<v2.heap.size:=l2;have b23:w.heap.size<v1.heap.size:=by omega
 have b4:v2.heap.size<v3.heap.size:=l3;clear Ev4 n4 H2 H3 H4 n0 HI OP HG HOK z4 s1 s3 l2 l3 l0;generalize v1.heap.size=g3 at *;generalize v2.heap.size=g4 at *;generalize v3.heap.size=g5 at *;go_wp2;go_loopw [5,6] (fun gv ii wr=>∃(i gg gc:Nat) (q:PtrM) (h:HartM) (gs:List ay),i<=ps.length∧ii=VI i∧gv=SL gg gs.length gc∧gs.length<=9*i∧DisS w wr g3 g4 S pa pc ps q h∧GhS wr w.heap.size g4 gg gs∧hU (ps.drop i) h gs i=R) (fun _ ii _=>ps.length-(intOf ii).toNat)
 case atStart=>exact ⟨0,g5,0,p,h0,[],Nat.zero_le _,rfl,rfl,Nat.zero_le _,K0.out,G0.out,by rw [List.drop_zero];exact HR.out⟩
 case round=>
 obtain ⟨i,gg,gc,q,h,gs,hi,rfl,rfl,hgl,k,kg,hr⟩:=hrel;clear K0 G0 HR;have HK:=hid k;have HGS:=hid kg;have HRR:=hid hr;clear k kg hr;have c21:=ab HK.out.h3 21 SP.out;have lw3:g3<wr.heap.size:=(hpl HK.out.h3);have lw4:g4<wr.heap.size:=(hpl HK.out.h4);by_cases hlt:i<ps.length
 ·have hlt':decide ((i:Int)<(ps.length:Int))=true:=by simp;omega
  have HDD:=hid (yb ps i hlt h gs);obtain ⟨y,hy⟩:∃y,ps[i]=y:=⟨_,rfl⟩;rw [hy,HRR.out] at HDD;have by':0<=y∧y<=255:=by rw [<-hy];exact PB.out _ (List.getElem_mem hlt)
  have pki:(cL ps)[i]?=some (VI y):=by
   rw [<-hy];simp [cL,List.getElem?_eq_getElem hlt]
  obtain ⟨pg,hpg⟩:=lH HK.out.pk (by omega);subst hpg;have HLy:Hid (∀u,Bw wr u->(Instr.loadAt 2 (PT pg i)).run Tryz.prog u=.ok (VI y) u):=fun u hu=>by
   have h1:=aQ (aq HK.out.pk hu) i _ pki;exact jdi (by simpa using h1)
  have HSt:=hid fun (u:World) (hu:Bw wr u)=>zl Dh q h y u (HK.out.hi.keep hu) HK.out.ok by';have HXR:=hid (oJ true by' HK.out.ok);have HLK:=hid (sP true y h);clear pki hy HRR;generalize bT true y h=X at *;have HLa:=hid fun u (hu:Bw wr u)=>pW (V:=ak q h) rfl (ae HK.out.h4 hu lw4);have HLs:Hid (∀u,Bw wr u->(Instr.loadAt 45 (PT g3 21)).run Tryz.prog u=.ok (SL pg ps.length pc) u):=fun u hu=>by
   have h1:=ab (ae HK.out.h3 hu lw3) 21 SP.out;go_simp
  have HHA:=hid (show ∀u,HartIn u q h->HartIn u q h from fun _ k=>k);obtain ⟨AH,hAH⟩:∃A,ak q h=A:=⟨_,rfl⟩;have EAH:=hid hAH;rw [hAH] at HSt HLa;clear hAH HHA;go_upto_region 7 with fail;clear c21;have hF:=bdr wr;refine ax (Bw wr) 8 ?_;refine aj 0 22 _ rfl hF ?_ (hy:=fun u hu=>aD rfl (HLa.out u hu));refine aj 1 23 (PT g3 21) rfl hF ?_
  go_frame
  refine aj 2 24 _ rfl hF ?_ (hy:=fun u hu=>aD rfl (HLs.out u hu));refine aj 3 25 (VI (i:Int)) rfl hF ?_
  go_frame
  refine aj 4 26 (PT pg i) rfl hF ?_ (hy:=fun u hu=>by have h1:=hlt;go_simp)
  go_frame
  refine aj 5 27 _ rfl hF ?_ (hy:=fun u hu=>aD rfl (HLy.out u hu))
  go_frame
  refine EH 6 7 28 7 (Z:=eS) (T:=54) (fun u z v=>∃p' al' cl',z=.agg (aG p' al' cl' true y X)∧RunIn v p' al' cl' X∧(∀q,some q∈be p'->u.heap.size<=q.block)∧∀q,al'=some q->u.heap.size<=q.block) rfl rfl rfl (fun u hu=>bst hF hu) (fun u hu=>(HSt.out u (bst hF hu)).mono fun e w' ⟨⟨p',al',cl',h1,h2,h3,h4⟩,n⟩=>⟨⟨_,h1,p',al',cl',rfl,h2,h3,h4⟩,n⟩) ?_;rintro _ pb u v6' v6 hu ⟨p',al',cl',rfl,hh6,hge,hgl'⟩ hb6 hpu hpb hz hn;have n6:=bst hF hn;have lu:=hu.size;replace lu:wr.heap.size<=u.heap.size:=lu;replace hpb:wr.heap.size<=pb:=hpb;have hne6:∀x,some x∈be p'->x.block≠pb:=fun x hx=>by
   have:=hge x hx;have:=hh6.h.low x hx;omega
  have hnl6:∀x,al'=some x->x.block≠pb:=fun x hx=>by
   have:=hgl' x hx;have:=hh6.low x hx;omega
  go_frame
  have RA:(aG p' al' cl' true y X).size=31:=rfl;have RO:=dM p' al' cl' true y X;have R25:=hid (show (aG p' al' cl' true y X)[25]?=some (.slice al' X.looks.length cl') from rfl);have R26:=hid (show (aG p' al' cl' true y X)[26]?=some (.bool X.fenced) from rfl);have R27:=hid (show (aG p' al' cl' true y X)[27]?=some (.bool X.fence.hasVa) from rfl);have R28:=hid (show (aG p' al' cl' true y X)[28]?=some (VU X.fence.va) from rfl);have R29:=hid (show (aG p' al' cl' true y X)[29]?=some (.bool X.fence.hasAsid) from rfl);have R30:=hid (show (aG p' al' cl' true y X)[30]?=some (VU X.fence.asid) from rfl);have R0:=hid (show ((aG p' al' cl' true y X).toList.drop 0).take 21=(ak p' X.h).toList from rfl);have HH:=hid (hh6.h.keep hb6);have HLr:=hid (hh6.looks.keep hb6);generalize aG p' al' cl' true y X=RR at *;have HS9:=hid (aR (P:=Tryz.prog) (T:=54) (V:=RR) hz (by rw [RA];exact dq) (by rw [RA,aS]) RO);have e9:=hid (aI (V:=RR) hz (by rw [RA,aS]));have gS:=aH pb RR.toList 0 v6 _ (ao _ _);have n9:Bw wr (v6.setCells pb 0 RR.toList):=aK hpb RR.toList 0 _ n6;replace HH:=hid (HH.out.gb gS hne6);have HLL:Hid (RowC (v6.setCells pb 0 RR.toList) al' X.looks.length 2 (fu X.looks)):=DJ HLr.out gS (.inr hnl6);have hge':Hid (∀x,some x∈be p'->wr.heap.size<=x.block):=fun x hx=>Nat.le_trans lu (hge x hx);refine dz 8 7 28 rfl HS9.out ?_;refine dc ?_;generalize v6.setCells pb 0 RR.toList=v7 at e9 n9 HH HLL |-;clear gS HS9 hge hgl' n6 hz hn hu hb6 hpu hne6 hnl6 hh6 HLr HLa HLs HLy HSt hF;replace HK:=hid (HK.out.keep n9);replace HGS:=hid (HGS.out.keep n9);have lw2:w.heap.size<v7.heap.size:=hpl HK.out.h2;have lv4:g4<v7.heap.size:=hpl HK.out.h4;have hwv:wr.heap.size<=v7.heap.size:=n9.size;have hw4:g4<wr.heap.size:=lw4;have hww:w.heap.size<wr.heap.size:=by omega
  have HPN:Hid (∀x,some x∈be p'->x.block≠w.heap.size∧x.block≠g4):=fun x hx=>by
   have:=hge'.out x hx;exact ⟨by omega,by omega⟩
  have HLW:=hid HLK.out;have hlk3:=HLK.out;clear hge' HLK n9 lw3 lw4 lu hpb;generalize wr=vr at *;go_wp2;go_loopw [5,8] (fun gv kk wr=>∃(k gg2 gc2:Nat) (gs2:List ay),k<=X.looks.length∧kk=VI k∧gv=SL gg2 gs2.length gc2∧gs2.length<=gs.length+3*k∧aZ h (X.looks.take k) gs=(true,gs2)∧GhS wr w.heap.size g4 gg2 gs2∧Bw v7 wr) (fun _ kk _=>X.looks.length-(intOf kk).toNat)
  case atStart=>exact ⟨0,gg,gc,gs,Nat.zero_le _,rfl,rfl,by omega,rfl,HGS.out,Below.refl _ _⟩
  case round=>
  obtain ⟨k,gg2,gc2,gs2,hk,rfl,rfl,hg2,hju,kg2,hb2⟩:=hrel;have HJU:=hid hju;have HG2:=hid kg2;clear hju kg2 HGS;have HKr:=hid (HK.out.keep hb2);have E9:=ah e9 hb2;have c25:=ab E9.out 25 R25.out;have lpb:pb<wr.heap.size:=hpl E9.out;have lr4:g4<wr.heap.size:=hpl HKr.out.h4;have lr2:w.heap.size<wr.heap.size:=hpl HKr.out.h2;by_cases hkl:k<X.looks.length
  ·obtain ⟨l,hl'⟩:∃l,X.looks[k]?=some l:=⟨_,List.getElem?_eq_getElem hkl⟩;have hlb:=HXR.out.looks l (List.mem_of_getElem? hl');obtain ⟨lb,lo,hal⟩:=mn HLL.out (by omega);subst hal;obtain ⟨lc0,lc1⟩:=yO _ _ _ hl';have hkd:decide ((k:Int)<(X.looks.length:Int))=true:=by simp;omega
   have HLl:Hid (∀u,Bw wr u->(Instr.loadAt 59 (PT lb (lo+k*2))).run Tryz.prog u=.ok (.agg #[VI l.1,VU l.2]) u):=fun u hu=>by
    rcases (HLL.out.keep (bst hb2 hu)).2 with h0 | ⟨b',o',e',_,hc⟩
    ·omega
    ·cases e';have h1:=hc _ _ lc0;have h2:=hc _ _ lc1;rw [<-Nat.add_assoc] at h2;go_simp
   have HJs:Hid (aZ h (X.looks.take (k+1)) gs=cV gs2 h l):=by
    show _=_;rw [List.take_add_one,hl'];show aZ h (X.looks.take k++[l]) gs=_;rw [jN,HJU.out];rfl
   obtain ⟨hjl1,hjl2⟩:=Cq (l:=l) HKr.out.ok.mem HG2.out.lev;have HJL:=hid hjl1;have CJ:=hid fun (u:World) (hu:Bw wr u)=>yL gg2 gc2 gs2 q h l.1 l.2 u ⟨HG2.out.row.keep hu,HG2.out.lev,by omega,HKr.out.hi.mem.keep hu,HKr.out.hi.memc,by have:=HKr.out.ok.v.size;simp only [ez,decide_eq_true_eq] at this;omega,HKr.out.ok.satp,hlb.2⟩;obtain ⟨⟨ok,gs3⟩,hJX⟩:∃J,cV gs2 h l=J:=⟨_,rfl⟩;have hl2:(l.1,l.2)=l:=rfl;rw [hl2,hJX,EAH.out] at CJ;rw [hJX] at HJs HJL hjl2;simp only at CJ hjl2;have HLa:=hid fun u (hu:Bw wr u)=>pW (V:=ak q h) rfl (ae HKr.out.h4 hu lr4);rw [EAH.out] at HLa;have HLs:Hid (∀u,Bw wr u->(Instr.loadAt 50 (PT pb 25)).run Tryz.prog u=.ok (.slice (some (AD lb lo)) X.looks.length cl') u):=fun u hu=>by
    have h1:=ab (ah E9 hu).out 25 R25.out;go_simp
   clear hl' hJX hl2 lc0 lc1 hjl1;obtain ⟨l1,l2⟩:=l;simp only at HLl CJ hlb;go_upto_region 12 with fail;have hF:=bdr wr;refine ax (Bw wr) 12 ?_;refine aj 0 37 (SL gg2 gs2.length gc2) rfl hF ?_;refine aj 1 38 _ rfl hF ?_ (hy:=fun u hu=>aD rfl (HLa.out u hu));refine aj 2 39 (PT pb 25) rfl hF ?_
   go_frame
   refine aj 3 40 _ rfl hF ?_ (hy:=fun u hu=>aD rfl (HLs.out u hu));refine aj 4 41 (VI (k:Int)) rfl hF ?_
   go_frame
   refine aj 5 42 (PT lb (lo+k*2)) rfl hF ?_ (hy:=fun u hu=>by have h1:=hkl;go_simp)
   go_frame
   refine aj 6 43 _ rfl hF ?_ (hy:=fun u hu=>aD rfl (HLl.out u hu))
   go_frame
   refine du 7 44 rfl ((CJ.out _ hF).mono ?_);rintro e va' ⟨⟨g',c',rfl,hrow,hgg⟩,na⟩;have ba:=bst hF na;refine ⟨_,rfl,fun _=>ba,?_⟩
   go_frame
   refine aj 8 36 (.tuple #[.bool ok,SL g' gs3.length c']) rfl ba ?_
   go_frame
   refine aj 9 45 (.bool ok) rfl ba ?_;refine aj 10 46 (SL g' gs3.length c') rfl ba ?_
   go_frame
   refine aj 11 9 (.bool ok) rfl ba ?_
   go_frame
   refine kB 12 rfl ?_;replace hgg:g'=gg2∨wr.heap.size<=g':=hgg;have GN:Hid (GhS va' w.heap.size g4 g' gs3):=⟨hrow,HJL.out,by
    rcases hgg with rfl | hgg
    ·exact HG2.out.ne
    ·exact ⟨by omega,by omega⟩⟩
   have KN:=hid (HKr.out.keep ba);have nN:=bst hb2 ba;clear HLa HLs HLl CJ hrow hgg hF c25 HG2 HKr E9;cases ok
   ·have hRe:R=(false,i):=by
     have:=tu h X.looks (k+1) gs (by rw [HJs.out]);rw [HDD.out,if_neg (by rw [this];decide)]
    subst hRe;have HS:=hid (aR (P:=Tryz.prog) (T:=24) (V:=#[.bool false,VI (i:Int)]) KN.out.h2 yP rfl (by simp [Value.oneCell']));have e1:=aI (V:=#[.bool false,VI (i:Int)]) KN.out.h2 rfl;have e2:=aK nle (#[.bool false,VI (i:Int)]:Array Value).toList 0 _ KN.out.n;go_wp2_with (first | ((with_reducible refine az ?_ ?_ HS.out ?_);(exact rfl);(exact rfl)));exact dE (b:=w.heap.size) Tryz.results5 rfl (bC (P:=Tryz.prog) e1 Tryz.underlying24 rfl yP) rfl ⟨rfl,e2⟩
   ·go_wp2;go_roundw
    case rel=>exact ⟨k+1,g',c',gs3,by omega,by go_num,rfl,by omega,HJs.out,GN.out,nN⟩
    case measure=>simp [intOf];omega
  ·have hkn:k=X.looks.length:=by omega
   subst hkn;have hkd:decide ((X.looks.length:Int)<(X.looks.length:Int))=false:=by simp
   rw [List.take_length] at HJU;rw [HJU.out,if_pos rfl] at HDD;have c26:=ab E9.out 26 R26.out;have c27:=ab E9.out 27 R27.out;have c28:=ab E9.out 28 R28.out;have c29:=ab E9.out 29 R29.out;have c30:=ab E9.out 30 R30.out;have HHr:=hid (HH.out.keep hb2);have hfb:=HXR.out.fva;unfold inU at hfb;have CF:Hid (Calls Tryz.prog 16 #[SL gg2 gs2.length gc2,.agg #[.bool X.fence.hasVa,VU X.fence.va,.bool X.fence.hasAsid,VU X.fence.asid]] wr fun e w'=>(∃g cap,e=.returned (SL g (dt gs2 X.fence).length cap)∧OwnC 120 6 w' wr.heap.size g (dt gs2 X.fence).length cap (iq (dt gs2 X.fence)))∧Bw wr w'):=wM gg2 gc2 gs2 X.fence wr HG2.out.row HG2.out.lev hfb.1 hfb.2 (by omega);have FIN:Hid (∀(u:World) (g' c':Nat) (gs':List ay),Bw wr u->GhS u w.heap.size g4 g' gs'->gs'.length<=gs2.length->dX X gs2=gs'->
    DisS w (u.setCells g4 0 (ak p' X.h).toList) g3 g4 S (some (AD pg 0)) pc ps p' X.h∧GhS (u.setCells g4 0 (ak p' X.h).toList) w.heap.size g4 g' gs'∧gs'.length<=9*(i+1)∧hU (ps.drop (i+1)) X.h gs' (i+1)=R):=fun u g' c' gs' hu kg hl ha=>by
    have g:=aH g4 (ak p' X.h).toList 0 u _ (ao _ _);refine ⟨(HKr.out.keep hu).next (HHr.out.keep hu) HXR.out.h HPN.out (by omega) (by omega),⟨DJ kg.row g (.inr fun x hx=>?_),kg.lev,kg.ne⟩,by omega,?_⟩
    ·cases hx;exact kg.ne.2
    ·rw [<-ha];exact HDD.out.symm
   have HLx:=hid fun u (hu:Bw wr u)=>eA (P:=Tryz.prog) (T:=44) (ah E9 hu).out Tryz.underlying44 rfl (o:=0) (ak p' X.h).toList fy R0.out rfl;have HSx:=hid fun u (hu:Bw wr u)=>aR (P:=Tryz.prog) (T:=44) (V:=ak p' X.h) (ae HKr.out.h4 hu lr4) fy rfl (gF _ _);have EPX:(ak p' X.h).toList.toArray=ak p' X.h:=rfl;rw [EPX] at HLx;clear EPX HKr HHr HJU HDD;go_upto_region 15 with fail;clear c25;cases hfd:X.fenced
   ·rw [hfd] at c26;have J:=hid (HLx.out wr (Below.refl _ _));have JS:=hid (HSx.out wr (Below.refl _ _));obtain ⟨f1,f2,f3,f4⟩:=FIN.out wr gg2 gc2 gs2 (Below.refl _ _) HG2.out nle (by unfold dX;rw [hfd];rfl);have F1:=hid f1;have F2:=hid f2;have F4:=hid f4;clear f1 f2 f4 HLx HSx FIN CF hfd;generalize ak p' X.h=AX at J JS F1 F2;go_wp2_with (first | ((with_reducible refine bj ?_ J.out ?_);(exact rfl)) | ((with_reducible refine az ?_ ?_ JS.out ?_);(exact rfl);(exact rfl)));go_roundw
    case rel=>exact ⟨i+1,gg2,gc2,p',X.h,gs2,by omega,by go_num,rfl,f3,F1.out,F2.out,F4.out⟩
    case measure=>simp [intOf];omega
   ·rw [hfd] at c26;go_wp2_with fail;refine CF.out.mono ?_;rintro e u ⟨⟨g',c',rfl,ho⟩,nu⟩;have J:=hid (HLx.out u nu);have JS:=hid (HSx.out u nu);obtain ⟨f1,f2,f3,f4⟩:=FIN.out u g' c' (dt gs2 X.fence) nu ⟨ho.row,Cr HG2.out.lev,by have:=ho.facts.2.1;exact ⟨by omega,by omega⟩⟩ (Ah _ _) (by unfold dX;rw [hfd];rfl);have F1:=hid f1;have F2:=hid f2;have F4:=hid f4;have lpu:pb<u.heap.size:=Nat.lt_of_lt_of_le lpb nu.size;clear f1 f2 f4 HLx HSx FIN CF hfd ho c26 c27 c28 c29 c30;generalize ak p' X.h=AX at J JS F1 F2;generalize dt gs2 X.fence=gs4 at *;go_wp2_with (first | ((with_reducible refine bj ?_ J.out ?_);(exact rfl)) | ((with_reducible refine az ?_ ?_ JS.out ?_);(exact rfl);(exact rfl)));go_roundw
    case rel=>exact ⟨i+1,g',c',p',X.h,gs4,by omega,by go_num,rfl,f3,F1.out,F2.out,F4.out⟩
    case measure=>simp [intOf];omega
 ·have hin:i=ps.length:=by omega
  subst hin;have hlt':decide ((ps.length:Int)<(ps.length:Int))=false:=by simp
  have hRe:R=(true,ps.length):=by
   rw [<-HRR.out,List.drop_length];rfl
  subst hRe;have HS:=hid (aR (P:=Tryz.prog) (T:=24) (V:=#[.bool true,VI (ps.length:Int)]) HK.out.h2 yP rfl (by simp [Value.oneCell']));have e1:=aI (V:=#[.bool true,VI (ps.length:Int)]) HK.out.h2 rfl;have e2:=aK nle (#[.bool true,VI (ps.length:Int)]:Array Value).toList 0 _ HK.out.n;go_wp2_with (first | ((with_reducible refine az ?_ ?_ HS.out ?_);(exact rfl);(exact rfl)));exact dE (b:=w.heap.size) Tryz.results5 rfl (bC (P:=Tryz.prog) e1 Tryz.underlying24 rfl yP) rfl ⟨rfl,e2⟩
end
section
attribute [local go_sem ↓] Go.wp_at_zero Go.wp_at_succ
theorem zH (x:Bool) (y:Int) (w:World):Calls Tryz.prog 8 #[.agg #[.bool x,VI y],.agg #[.bool x,VI y]] w fun e w'=>e=.returned (.bool true)∧Bw w w':=by
 obtain ⟨v,E,n,H1,H2,l⟩:=al2 w #[.bool x,VI y] #[.bool x,VI y] 24 24;have c0:=ab H1.out 0 (v:=.bool x) rfl;have c1:=ab H1.out 1 (v:=VI y) rfl;have d0:=ab H2.out 0 (v:=.bool x) rfl;have d1:=ab H2.out 1 (v:=VI y) rfl;have l1:w.heap.size<v.heap.size:=by omega
 go_enter Tryz.func8,Tryz.ntmps8;go_upto_region 1 with fail;rw [E.out];go_wp2;go_ret;exact ⟨rfl,n⟩
theorem Ay (v:World) (x:Bool) (y:Int):∃v',(Instr.storeAt 24 (PT v.heap.size 0) (.agg #[.bool x,VI y])).run Tryz.prog (v.alloc (Obj.cells #[.bool false,VI 0] 24))=.ok () v'∧Hid (v'.heap[v.heap.size]?=some (.cells #[.bool x,VI y] 24 (0,0)))∧v.heap.size<v'.heap.size∧Bw v v':=by
 have a:=bF v #[.bool false,VI 0] 24;refine ⟨_,aR (P:=Tryz.prog) (T:=24) a.1 yP rfl (by simp [Value.oneCell']),aI a.1 rfl,?_,aK nle _ _ _ a.2.2⟩;rw [cF,a.2.1];exact Nat.lt_succ_self _
theorem DG (a0:Option Addr) (len0 cap0:Nat) (zs:List Int) (w:World) (hB:Byt w a0 len0 zs) (hlc:len0<=cap0) (hcm:cap0<=9223372036854775807):
 Calls Tryz.prog 3 #[.slice a0 len0 cap0] w fun e w'=>e=.returned (.bool true)∧Bw w w':=by
 have hz:=hB.1;have HBD:=hid hB.2.1;by_cases hlen:len0<=1048576
 ·have CS:=hid fun (a:Option Addr) (v:World) (hb:Byt v a len0 zs)=>yQ a len0 len0 zs v hb hlen;have CI:=hid fun (a:Option Addr) (v:World) (hb:Byt v a len0 zs)=>qA a len0 len0 zs v hb (by omega);generalize hU (bE zs) (aJ zs) [] 0=D at *;obtain ⟨x,y⟩:=D;simp only at CS CI;go_enter Tryz.func3,Tryz.ntmps3;go_wp2_with fail;refine (lY a0 len0 cap0 zs w hB hlen).mono ?_;rintro e v1 ⟨rfl,k1,n1⟩;go_wp2_with fail;refine (CS.out _ v1 (hz ▸ k1.byt HBD.out)).mono ?_;rintro e v2 ⟨rfl,n2⟩;have A2:=bst n1 n2;obtain ⟨v3,hs3,H3,l3,n3⟩:=Ay v2 x y;have HS3:=hid hs3;have A3:=bst A2 n3;clear n1 n2 k1 CS hs3 A2 n3;go_upto_region 4 with (first | ((with_reducible refine az ?_ ?_ HS3.out ?_);(exact rfl);(exact rfl)));go_wp2_with fail;refine (lY a0 len0 cap0 zs v3 (hB.keep A3) hlen).mono ?_;rintro e v4 ⟨rfl,k4,n4⟩;have B4:=hid (hz ▸ k4.byt HBD.out);have H4:=ah H3 n4;have A4:=bst A3 n4;clear k4 n4 H3 A3 HS3;go_wp2_with fail;refine (CI.out _ v4 B4.out).mono ?_;rintro e v5 ⟨rfl,n5⟩;obtain ⟨v6,hs6,H6,l6,n6⟩:=Ay v5 x y;have HS6:=hid hs6;have n46:=bst n5 n6;have B6:=hid (B4.out.keep n46);have K6:=ah H4 n46;have A6:=bst A4 n46;clear hs6 n5 n6 n46 H4 A4 B4 CI;go_upto_region 6 with (first | ((with_reducible refine az ?_ ?_ HS6.out ?_);(exact rfl);(exact rfl)));have c0:=ab H6.out 0 (v:=.bool x) rfl;have c1:=ab H6.out 1 (v:=VI y) rfl;have d0:=ab K6.out 0 (v:=.bool x) rfl;have d1:=ab K6.out 1 (v:=VI y) rfl;have lk:v2.heap.size<v6.heap.size:=hpl K6.out;clear HS6;go_wp2_with fail;refine (zH x y v6).mono ?_;rintro e v7 ⟨rfl,n7⟩;have A7:=bst A6 n7;have B7:=hid (B6.out.keep n7);clear c0 c1 d0 d1;go_wp2_with fail;refine (lY a0 len0 cap0 zs v7 (hB.keep A7) hlen).mono ?_;rintro e v8 ⟨rfl,k8,n8⟩;have A8:=bst A7 n8;have B8:=B7.out.keep n8;go_wp2_with fail;refine (vO _ _ len0 len0 len0 zs v8 B8 (hz ▸ k8.byt HBD.out) hlen).mono ?_;rintro e v9 ⟨rfl,n9⟩;go_wp2;go_ret;exact ⟨rfl,bst A8 n9⟩
 ·go_enter Tryz.func3,Tryz.ntmps3;go_wp2;go_ret;exact ⟨rfl,Below.refl _ _⟩
end
end Go.Proofs.YthdgiakgepmabaaGreat
