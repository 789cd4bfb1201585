import Derived.Test.YthdgiakgepmabaaGreatDk36
import Derived.Test.YthdgiakgepmabaaGreatDk35
namespace Go.Proofs.YthdgiakgepmabaaGreat
open Go.RowKit
set_option linter.unusedVariables false
set_option maxHeartbeats 6400000
set_option maxRecDepth 20000
section
attribute [local go_sem ↓] Go.wp_at_zero Go.wp_at_succ
theorem AQ (zs:List Int) (satp va:Int) (hz:∀i:Nat,0<=zs[i]?.getD 0∧zs[i]?.getD 0<=255):(bD zs satp va).2.2.2.length<=3∧∀x∈(bD zs satp va).2.2.2,(0<=x.1∧x.1<=2)∧0<=x.2.2∧x.2.2<=18446744073709551615:=by
 refine ⟨uo zs satp va,?_⟩;unfold bD;split
 ·intro x hx;cases hx
 ·obtain ⟨ps,hs,_⟩:=jL zs va hz 2 (satp%17592186044416);exact oh hs
theorem Gq (v:World) (g:ay):∃v',(Instr.storeAt 120 (PT v.heap.size 0) (.agg (ghA g))).run Tryz.prog (v.alloc (Obj.cells #[VU 0,VU 0,.bool false,VI 0,VU 0,VU 0] 120))=.ok () v'∧Hid (v'.heap[v.heap.size]?=some (.cells (ghA g) 120 (0,0)))∧v.heap.size<v'.heap.size∧Bw v v':=by
 have a:=bF v #[VU 0,VU 0,.bool false,VI 0,VU 0,VU 0] 120;refine ⟨_,aR (P:=Tryz.prog) (T:=120) a.1 ghI rfl (by simp [Value.oneCell']),aI a.1 rfl,?_,aK nle _ _ _ a.2.2⟩;rw [cF,a.2.1];exact Nat.lt_succ_self _
theorem Gr (v:World) (a b c d:Value) (h:(#[a,b,c,d]:Array Value).all (·.oneCell')=true):∃v',(Instr.storeAt 114 (PT v.heap.size 0) (.agg #[a,b,c,d])).run Tryz.prog (v.alloc (Obj.cells #[VI 0,VI 0,VU 0,SN] 114))=.ok () v'∧Hid (v'.heap[v.heap.size]?=some (.cells #[a,b,c,d] 114 (0,0)))∧v.heap.size<v'.heap.size∧Bw v v':=by
 have a:=bF v #[VI 0,VI 0,VU 0,SN] 114;refine ⟨_,aR (P:=Tryz.prog) (T:=114) a.1 (by kernel_rfl) rfl h,aI a.1 rfl,?_,aK nle _ _ _ a.2.2⟩;rw [cF,a.2.1];exact Nat.lt_succ_self _
theorem FM (v:World) (a b c:Int):∃v',(Instr.storeAt 118 (PT v.heap.size 0) (.agg #[VI a,VU b,VU c])).run Tryz.prog (v.alloc (Obj.cells #[VI 0,VU 0,VU 0] 118))=.ok () v'∧Hid (v'.heap[v.heap.size]?=some (.cells #[VI a,VU b,VU c] 118 (0,0)))∧v.heap.size<v'.heap.size∧Bw v v':=by
 have q:=bF v #[VI 0,VU 0,VU 0] 118;refine ⟨_,aR (P:=Tryz.prog) (T:=118) q.1 (by kernel_rfl) rfl (by simp [Value.oneCell']),aI q.1 rfl,?_,aK nle _ _ _ q.2.2⟩;rw [cF,q.2.1];exact Nat.lt_succ_self _
theorem yK (h:HartM) (kind va:Int):∀(rs ss:List aP) (gs:List ay),dJ h kind va (rs++ss) gs=dJ h kind va ss (dJ h kind va rs gs)
 | [],ss,gs=>rfl
 | r::rs,ss,gs=>by
  rw [List.cons_append,dJ,dJ,yK h kind va rs ss]
theorem Co {h:HartM} {kind va:Int} {rs:List aP} {gs:List ay} {j:Nat} {y:aP} (hy:rs[j]?=some y):dJ h kind va (rs.take (j+1)) gs=if (aU y.2.2 y.1 == 1 || cG y.2.2 kind h.mode h.sum h.mxr)=true then qc (dJ h kind va (rs.take j) gs) (fj va h.satp y) else dJ h kind va (rs.take j) gs:=by
 rw [List.take_add_one,hy,yK];rfl
theorem Eh (gs:List ay) (g:ay):(qc gs g).length<=gs.length+1:=by
 unfold qc;split
 ·omega
 ·simp
theorem tr (h:HartM) (kind va:Int):∀(rs:List aP) (gs:List ay),(dJ h kind va rs gs).length<=gs.length+rs.length
 | [],gs=>by simp [dJ]
 | r::rs,gs=>by
  rw [dJ];have h1:=tr h kind va rs;split
  ·have:=h1 (qc gs (fj va h.satp r));have:=Eh gs (fj va h.satp r);simp only [List.length_cons];omega
  ·have:=h1 gs;simp only [List.length_cons];omega
theorem jdu {v:World} {b i:Nat} {s:Int} (h:v.cell? (AD b i)=some (VU s)):(Instr.loadAt 33 (PT b i)).run Tryz.prog v=.ok (VU s) v:=by go_simp
theorem jdi {v:World} {b i:Nat} {s:Int} (h:v.cell? (AD b i)=some (VI s)):(Instr.loadAt 2 (PT b i)).run Tryz.prog v=.ok (VI s) v:=by go_simp
structure JudgeIn (w:World) (b:Nat) (gs:List ay) (p:PtrM) (h:HartM) (va:Int):Prop where
 row:RowC w (some (AD b 0)) gs.length 6 (iq gs)
 lev:∀g∈gs,0<=g.2.2.2.1∧g.2.2.2.1<=2
 len:gs.length<=1000000
 mem:Byt w p.am h.mem.length h.mem
 memc:h.mem.length<=p.cm∧p.cm<=9223372036854775807
 meml:h.mem.length<=1048576
 satp:inU h.satp
 va:inU va
def okG (recs:List aP) (va asid:Int) (g:ay):Bool:=!eu g va asid || decide (g.2.2.2∈recs)
theorem yL (b c:Nat) (gs:List ay) (p:PtrM) (h:HartM) (kind va:Int) (w:World) (hj:JudgeIn w b gs p h va):
 Calls Tryz.prog 15 #[SL b gs.length c,.agg (ak p h),.agg #[VI kind,VU va]] w fun e w'=>(∃g cap,e=.returned (.tuple #[.bool (cV gs h (kind,va)).1,SL g (cV gs h (kind,va)).2.length cap])∧RowC w' (some (AD g 0)) (cV gs h (kind,va)).2.length 6 (iq (cV gs h (kind,va)).2)∧(g=b∨w.heap.size<=g))∧Bw w w':=by
 have HJ:=hid hj;obtain ⟨X,hX⟩:∃X,cV gs h (kind,va)=X:=⟨_,rfl⟩;have HX:=hid hX;have hsp:=hj.satp;have hva:=hj.va;have hgl:=hj.len;unfold inU at hsp hva;rw [hX];clear hj hX;obtain ⟨v2,E2,n12,H1,H2,l2⟩:=al2 w (ak p h) #[VI kind,VU va] 44 59;have HC:=hid fun (u:World)=>uA p h u;have A0:=hid (show (ak p h)[0]?=some (.slice p.am h.mem.length p.cm) from rfl);have A3:=hid (show (ak p h)[3]?=some (VI h.mode) from rfl);have A4:=hid (show (ak p h)[4]?=some (.bool h.sum) from rfl);have A5:=hid (show (ak p h)[5]?=some (.bool h.mxr) from rfl);have A6:=hid (show (ak p h)[6]?=some (VU h.satp) from rfl);have HAs:(ak p h).size=21:=rfl;generalize ak p h=AH at *;have lh:w.heap.size<v2.heap.size:=hpl H1.out;have lk:w.heap.size+1<v2.heap.size:=hpl H2.out;have HLh:=hid (pW HAs H1.out);have k1:=ab H2.out 1 (v:=VU va) rfl;obtain ⟨on,hon⟩:∃on,onM h.mode h.satp=on:=⟨_,rfl⟩;obtain ⟨cn,hcn⟩:∃cn,cR va=cn:=⟨_,rfl⟩;have HO:=hid fun (u:World)=>vJ h.mode h.sum h.mxr h.satp u hsp.1 hsp.2;have HN:=hid fun (u:World)=>fM va u hva.1 hva.2;rw [hon] at HO;rw [hcn] at HN;have HON:=hid hon;have HCN:=hid hcn;clear hon hcn;go_enter Tryz.func15,Tryz.ntmps15;go_upto_region 1 with fail;rw [E2.out];clear E2;go_cut [29] from 20 to 28 (fun s29 wx=>s29=.bool (!(on && cn))∧Bw v2 wx)
 case first=>
  go_wp2_with ((with_reducible refine bj ?_ HLh.out ?_);(exact rfl));refine (HC.out v2).mono ?_;rintro e v3 ⟨rfl,m3⟩;go_wp2_with fail;refine (HO.out v3).mono ?_;rintro e v4 ⟨rfl,m4⟩;have m24:=bst m3 m4;have k1:=Below.cell2 m24 k1 lk;clear HC HO HLh;cases on
  ·go_wp2;go_meet;exact ⟨rfl,m24⟩
  ·go_wp2_with fail;refine (HN.out v4).mono ?_;rintro e _ ⟨rfl,nn,rfl⟩;go_wp2;go_meet;exact ⟨rfl,below_drewN m24 _⟩
 obtain ⟨rfl,nc⟩:=hcut;generalize wc=v3 at *;replace H1:=ah H1 nc;replace H2:=ah H2 nc;have n13:=bst n12 nc;clear HC HO HN HLh k1 lh lk n12 nc;have lh:w.heap.size<v3.heap.size:=hpl H1.out;have lk:w.heap.size+1<v3.heap.size:=hpl H2.out;by_cases hoc:¬(on=true∧cn=true)
 ·have hq:(!(on && cn))=true:=by cases on <;> cases cn <;> simp_all
  rw [hq];have hXe:X=(true,gs):=by
   rw [<-HX.out];unfold cV;rw [if_pos];rw [HON.out,HCN.out];cases on <;> cases cn <;> simp_all
  subst hXe;go_wp2;exact bodyPost_ret (v:=.tuple #[.bool true,SL b gs.length c]) (by simp [results,Tryz.results15,go_sem]) rfl ⟨⟨b,⟨c,rfl⟩,HJ.out.row.keep n13,.inl rfl⟩,n13⟩
 have hoc':=Decidable.not_not.1 hoc;obtain ⟨rfl,rfl⟩:=hoc';clear hoc;have HW:=hid (oY p.am h.mem.length p.cm h.mem h.satp va v3 HJ.out.meml HJ.out.memc.1 HJ.out.memc.2 hsp.1 hsp.2 hva.1 hva.2 (HJ.out.mem.keep n13));have WB:=hid (AQ h.mem h.satp va HJ.out.mem.2.1);have HXe:Hid (X=if kS gs h va=true then (true,dJ h kind va (bD h.mem h.satp va).2.2.2 gs) else (false,gs)):=by
  show _=_;rw [<-HX.out];unfold cV;rw [if_neg (by rw [HON.out,HCN.out];simp)]
 have HLk:Hid (kS gs h va=gs.all (okG (bD h.mem h.satp va).2.2.2 va (aN h.satp))):=by
  show _=_;rfl
 generalize bD h.mem h.satp va=W at *;obtain ⟨r1,r2,r3,rs⟩:=W;simp only at WB HXe HLk;have hrl3:=WB.out.1;clear HX HON HCN;have c0:=ab H1.out 0 A0.out;have c6:=ab H1.out 6 A6.out;have k1:=ab H2.out 1 (v:=VU va) rfl;go_wp2_with fail;refine HW.out.mono ?_;rintro e v4 ⟨⟨ra,rc,rfl,hrw,hrn,hrl,hrc⟩,m4⟩;simp only at hrw hrn hrl hrc |-;obtain ⟨v5,hs5,H5,l5,m5⟩:=Gr v4 (VI r1) (VI r2) (VU r3) (.slice ra rs.length rc) (by simp [Value.oneCell']);have HS5:=hid hs5;have RW:=hid (hrw.keep m5);clear c0 c6 k1 HW hs5 hrw;go_upto_region 4 with (first | ((with_reducible refine az ?_ ?_ HS5.out ?_);(exact rfl);(exact rfl)));have m35:=bst m4 m5;replace H1:=ah H1 m35;replace H2:=ah H2 m35;have n15:=bst n13 m35;clear HS5 lh lk n13 m35 m4 m5 l2 l5;have c6:=ab H1.out 6 A6.out;have lh:w.heap.size<v5.heap.size:=hpl H1.out;have HA:=BN h.satp v5 hsp.1 hsp.2;go_wp2_with fail;refine HA.mono ?_;rintro e _ ⟨rfl,nn,rfl⟩;obtain ⟨v6,E6,m6⟩:∃v6,Hid (v5.drewN nn=v6)∧Bw v5 v6:=⟨_,rfl,below_drewN (Below.refl _ _) _⟩;rw [E6.out];clear E6 HA c6 lh;replace H1:=ah H1 m6;replace H2:=ah H2 m6;replace H5:=ah H5 m6;replace RW:=hid (RW.out.keep m6);have n16:=bst n15 m6;have HAL0:Hid (∀g,okG rs va (aN h.satp) g=true∨okG rs va (aN h.satp) g=false):=fun g=>by cases okG rs va (aN h.satp) g <;> simp
 clear n15 m6;generalize hasd:aN h.satp=asd at *;have HASD:=hid hasd;clear hasd;go_wp2;go_loopw [10] (fun ii wr=>∃k:Nat,k<=gs.length∧ii=VI k∧(gs.take k).all (okG rs va asd)=true∧Bw v6 wr) (fun ii _=>gs.length-(intOf ii).toNat)
 case atStart=>exact ⟨0,Nat.zero_le _,rfl,rfl,Below.refl _ _⟩
 case round=>
 obtain ⟨k,hk,rfl,hall,hb⟩:=hrel;have HAL:=hid hall;clear hall;have W2:=ah H2 hb;have W5:=ah H5 hb;have WR:=hid (RW.out.keep hb);generalize wr=vr at *;by_cases hlt:k<gs.length
 ·obtain ⟨x,hx⟩:∃x,gs[k]?=some x:=⟨_,List.getElem?_eq_getElem hlt⟩;have hxl:=HJ.out.lev x (List.mem_of_getElem? hx);obtain ⟨lb,c0,c1,c2,c3,c4,c5⟩:=uP (HJ.out.row.keep (bst n16 hb)) hx;have HTk:Hid (∀f,okG rs va asd x=f->(gs.take (k+1)).all (okG rs va asd)=f):=fun f hf=>by
   rw [List.take_add_one,hx,List.all_append,HAL.out];simp [hf]
  have HMx:=hid (List.mem_of_getElem? hx);obtain ⟨x1,x2,x3,x4,x5,x6⟩:=x;simp only [Nat.zero_add] at c0 c1 c2 c3 c4 c5;simp only at hxl;obtain ⟨v7,hs7,H7,l7,m7⟩:=Gq vr (x1,x2,x3,x4,x5,x6);have HS7:=hid hs7;have hlt':decide ((k:Int)<(gs.length:Int))=true:=by simp;omega
  clear hs7 hx;go_upto_region 9 with (first | ((with_reducible refine az ?_ ?_ HS7.out ?_);(exact rfl);(exact rfl)));replace W2:=ah W2 m7;replace W5:=ah W5 m7;replace WR:=hid (WR.out.keep m7);have HT:Hid (∀u,Calls Tryz.prog 38 #[VU va,VI x4] u fun e w'=>e=.returned (VU (dP va x4))∧Bw u w'):=fun u=>(sK va x4 u hva.1 hva.2 hxl.1 hxl.2).mono (by rintro e _ ⟨rfl,n,rfl⟩;exact ⟨rfl,below_drewN (Below.refl _ _) _⟩);obtain ⟨ft,hft⟩:∃ft,eu (x1,x2,x3,x4,x5,x6) va asd=ft:=⟨_,rfl⟩;have HFt:Hid ((x1 == dP va x4 && (x3 || x2 == asd))=ft):=hft;have HOk':Hid (okG rs va asd (x1,x2,x3,x4,x5,x6)=(!ft || decide ((x4,x5,x6)∈rs))):=by
   show _=_;unfold okG;rw [hft]
  generalize dP va x4=tg at HT HFt;clear hft HS7 c0 c1 c2 c3 c4 c5;have n7:=bst hb m7;have lx:vr.heap.size<v7.heap.size:=l7;have lk:w.heap.size+1<v7.heap.size:=hpl W2.out;simp only [Act.put];go_cut [69] from 51 to 68 (fun s69 wx=>s69=.bool ft∧Bw v7 wx)
  case first=>
   have ne:=eF v7;have q0:=aM (ab H7.out 0 (v:=VU x1) rfl) lx;have q1:=aM (ab H7.out 1 (v:=VU x2) rfl) lx;have q2:=aM (ab H7.out 2 (v:=.bool x3) rfl) lx;have q3:=aM (ab H7.out 3 (v:=VI x4) rfl) lx;have k1:=aM (ab W2.out 1 (v:=VU va) rfl) lk;by_cases e1:¬(x1=tg)
   ·have s1:(x1 == tg)=false:=by simpa using e1
    have hf:ft=false:=by rw [<-HFt.out,s1];rfl
    subst hf;clear e1;refine cN (by kernel_rfl) (by kernel_rfl) ?_;repeat (go_big_quiet_step ((go_at_call 38;exact fX _ (HT.out _))))
    refine wpQuiet_nil ?_;rintro _ ⟨u,rfl⟩;go_wp2;go_meet;exact ⟨rfl,u.h⟩
   have e1':=Decidable.not_not.1 e1;subst e1';clear e1;cases x3
   ·by_cases e2:¬(x2=asd)
    ·have s1:(x2 == asd)=false:=by simpa using e2
     have hf:ft=false:=by rw [<-HFt.out,s1];simp
     subst hf;clear e2;refine cN (by kernel_rfl) (by kernel_rfl) ?_;repeat (go_big_quiet_step ((go_at_call 38;exact fX _ (HT.out _))))
     refine wpQuiet_nil ?_;rintro _ ⟨u,rfl⟩;go_wp2;go_meet;exact ⟨rfl,u.h⟩
    have e2':=Decidable.not_not.1 e2;subst e2';clear e2;have hf:ft=true:=by rw [<-HFt.out];simp
    subst hf;refine cN (by kernel_rfl) (by kernel_rfl) ?_;repeat (go_big_quiet_step ((go_at_call 38;exact fX _ (HT.out _))))
    refine wpQuiet_nil ?_;rintro _ ⟨u,rfl⟩;go_wp2;go_meet;exact ⟨rfl,u.h⟩
   ·have hf:ft=true:=by rw [<-HFt.out];simp
    subst hf;refine cN (by kernel_rfl) (by kernel_rfl) ?_;repeat (go_big_quiet_step ((go_at_call 38;exact fX _ (HT.out _))))
    refine wpQuiet_nil ?_;rintro _ ⟨u,rfl⟩;go_wp2;go_meet;exact ⟨rfl,u.h⟩
  obtain ⟨rfl,nc⟩:=hcut;have n8:=bst n7 nc;cases ft
  ·go_wp2;go_roundw
   case rel=>exact ⟨k+1,by omega,by go_num,HTk.out true (by rw [HOk'.out];rfl),n8⟩
   case measure=>simp [intOf];omega
  replace W5:=ah W5 nc;replace WR:=hid (WR.out.keep nc);replace H7:=ah H7 nc;generalize wc=v8 at *;clear HT HFt W2 lx lk l7 m7 nc n7;go_wp2;go_loopw [12,13] (fun is jj wr=>∃j:Nat,j<=rs.length∧jj=VI j∧is=.bool (decide ((x4,x5,x6)∈rs.take j))∧Bw v8 wr) (fun _ jj _=>rs.length-(intOf jj).toNat)
  case atStart=>exact ⟨0,Nat.zero_le _,rfl,rfl,Below.refl _ _⟩
  case round=>
  obtain ⟨j,hj,rfl,rfl,hb2⟩:=hrel;have Y5:=ah W5 hb2;have Y7:=ah H7 hb2;have d3:=ab Y5.out 3 (v:=.slice ra rs.length rc) rfl;have lw:v4.heap.size<wr.heap.size:=hpl Y5.out;have lx:vr.heap.size<wr.heap.size:=hpl Y7.out;have q3:=ab Y7.out 3 (v:=VI x4) rfl;have q4:=ab Y7.out 4 (v:=VU x5) rfl;have q5:=ab Y7.out 5 (v:=VU x6) rfl;by_cases hjl:j<rs.length
  ·obtain ⟨y,hy⟩:∃y,rs[j]?=some y:=⟨_,List.getElem?_eq_getElem hjl⟩;obtain ⟨rb,ro,hra⟩:=mn WR.out (by omega);subst hra;obtain ⟨lr,y0,y1,y2⟩:=mQ (WR.out.keep hb2) hy;have HMj:Hid (decide ((x4,x5,x6)∈rs.take (j+1))=(decide ((x4,x5,x6)∈rs.take j) || decide (y=(x4,x5,x6)))):=by
    show _=_;rw [List.take_add_one,hy];by_cases e:y=(x4,x5,x6)
    ·subst e;simp
    ·have:¬(x4,x5,x6)=y:=fun h=>e h.symm;simp [e,this]
   have hq:=fun u=>Ef y (x4,x5,x6) u;obtain ⟨z1,z2,z3⟩:=y;simp only [nm] at hq;generalize decide ((z1,z2,z3)=(x4,x5,x6))=ee at hq HMj;generalize decide ((x4,x5,x6)∈rs.take j)=bb at *;have hjl':decide ((j:Int)<(rs.length:Int))=true:=by simp;omega
   clear hy;go_upto_region 14 with fail;cases bb
   ·go_quiet (fail);go_wp2;go_roundw
    case rel=>exact ⟨j+1,by omega,by go_num,by rw [HMj.out];rfl,below_drewN hb2 _⟩
    case measure=>simp [intOf];omega
   ·go_quiet (fail);go_wp2;go_roundw
    case rel=>exact ⟨j+1,by omega,by go_num,by rw [HMj.out];rfl,below_drewN hb2 _⟩
    case measure=>simp [intOf];omega
  ·have hjn:j=rs.length:=by omega
   subst hjn;have hjl':decide ((rs.length:Int)<(rs.length:Int))=false:=by simp
   rw [List.take_length];obtain ⟨bb,hbb⟩:∃bb,decide ((x4,x5,x6)∈rs)=bb:=⟨_,rfl⟩;rw [hbb] at HOk' |-;clear hbb;cases bb
   ·have hXe:X=(false,gs):=by
     rw [HXe.out,HLk.out,if_neg];intro ha;rw [List.all_eq_true] at ha;have:=ha _ HMx.out;rw [HOk'.out] at this;cases this
    subst hXe;go_wp2;exact bodyPost_ret (v:=.tuple #[.bool false,SL b gs.length c]) (by simp [results,Tryz.results15,go_sem]) rfl ⟨⟨b,⟨c,rfl⟩,HJ.out.row.keep (bst n16 (bst n8 hb2)),.inl rfl⟩,bst n16 (bst n8 hb2)⟩
   ·go_wp2;go_roundw
    case rel=>exact ⟨k+1,by omega,by go_num,HTk.out true (by rw [HOk'.out];rfl),bst n8 hb2⟩
    case measure=>simp [intOf];omega
 have hkn:k=gs.length:=by omega
 subst hkn;have hlt':decide ((gs.length:Int)<(gs.length:Int))=false:=by simp
 rw [List.take_length] at HAL;have hXe:X=(true,dJ h kind va rs gs):=by rw [HXe.out,HLk.out,if_pos HAL.out]
 subst hXe;have W1:=ah H1 hb;have n1r:=bst n16 hb;obtain ⟨v9,E9,m9,_,l9⟩:=al1 vr #[] 120;have O9:Hid (OwnC 120 6 v9 vr.heap.size vr.heap.size 0 0 []):=by
  rw [<-E9.out];exact OwnC.new 120 6 vr [] 0 rfl (by decide)
 have R9:=hid (HJ.out.row.keep (bst n1r m9));clear HXe HLk HAL hlt hk hb H1 H2 H5 RW;go_upto_region 17 with fail;go_upto_region 18 with (at_builtin;rw [E9.out];refine iC _ rfl (.tmp 91) (.tmp 92) 49 rfl 120 Tryz.undGh (.agg #[VU 0,VU 0,.bool false,VI 0,VU 0,VU 0]) 6 48 Tryz.infoGh rfl (by decide) vr.heap.size _ _ _ _ rfl O9.out (some (AD b 0)) gs.length c (iq gs) rfl (fun h=>by cases h) (fun q h=>by cases h;rfl) R9.out (yi _) (by omega) (by omega) vr.heap.size vr m9 nle ?_;intro g0 c0 v10 oN bN);have O10:Hid (OwnC 120 6 v10 vr.heap.size g0 gs.length c0 (iq gs)):=by
  show OwnC _ _ _ _ _ _ _ _;simpa using oN
 clear E9 O9 R9 oN m9 l9;go_wp2;go_loopw [14,15] (fun ov jj wr=>∃(j g cap:Nat),j<=rs.length∧jj=VI j∧ov=SL g (dJ h kind va (rs.take j) gs).length cap∧OwnC 120 6 wr vr.heap.size g (dJ h kind va (rs.take j) gs).length cap (iq (dJ h kind va (rs.take j) gs))∧Bw vr wr) (fun _ jj _=>rs.length-(intOf jj).toNat)
 case atStart=>exact ⟨0,g0,c0,Nat.zero_le _,rfl,rfl,O10.out,bN⟩
 case round=>
 obtain ⟨j,g,cap,hj,rfl,rfl,ho,hb⟩:=hrel;have HO:=hid ho;clear ho O10 bN;generalize wr=vs at *;replace W1:=ah W1 hb;replace W2:=ah W2 hb;replace W5:=ah W5 hb;replace WR:=hid (WR.out.keep hb);have d3:=ab W5.out 3 (v:=.slice ra rs.length rc) rfl;have lw:v4.heap.size<vs.heap.size:=hpl W5.out;by_cases hjl:j<rs.length
 ·obtain ⟨y,hy⟩:∃y,rs[j]?=some y:=⟨_,List.getElem?_eq_getElem hjl⟩;obtain ⟨rb,ro,hra⟩:=mn WR.out (by omega);subst hra;obtain ⟨lr,y0,y1,y2⟩:=mQ WR.out hy;have hyb:=WB.out.2 y (List.mem_of_getElem? hy);have HST:=hid (Co (h:=h) (kind:=kind) (va:=va) (gs:=gs) hy);have hal:=tr h kind va (rs.take j) gs;have htk:(rs.take j).length=j:=by simp;omega
  obtain ⟨z1,z2,z3⟩:=y;simp only at hyb y0 y1 y2 HST;generalize dJ h kind va (rs.take j) gs=A at *;obtain ⟨v11,hs11,H11,l11,m11⟩:=FM vs z1 z2 z3;have HS11:=hid hs11;have hjl':decide ((j:Int)<(rs.length:Int))=true:=by simp;omega
  clear hs11 hy;go_upto_region 22 with (first | ((with_reducible refine az ?_ ?_ HS11.out ?_);(exact rfl);(exact rfl)));replace W1:=ah W1 m11;replace W2:=ah W2 m11;have h3:=ab W1.out 3 A3.out;have h4:=ab W1.out 4 A4.out;have h5:=ab W1.out 5 A5.out;have k0:=ab W2.out 0 (v:=VI kind) rfl;have b0:=ab H11.out 0 (v:=VI z1) rfl;have b2:=ab H11.out 2 (v:=VU z3) rfl;have lh:w.heap.size<v11.heap.size:=hpl W1.out;have lk:w.heap.size+1<v11.heap.size:=hpl W2.out;obtain ⟨cnd,hcnd⟩:∃cnd,(aU z3 z1 == 1 || cG z3 kind h.mode h.sum h.mxr)=cnd:=⟨_,rfl⟩;rw [hcnd] at HST;have HCd:=hid hcnd;clear hcnd HS11 y0 y1 y2 d3;have HPk:=hid (hH z3 z1 v11 hyb.2.1 hyb.2.2 (by omega) (by omega));have HGr:=hid fun (u:World)=>jy z3 kind h.mode h.sum h.mxr u hyb.2.1 hyb.2.2;simp only [Act.put];go_cut [124] from 106 to 123 (fun s124 wx=>s124=.bool cnd∧Bw v11 wx)
  case first=>
   go_wp2_with fail;refine HPk.out.mono ?_;rintro e _ ⟨rfl,n,rfl⟩;by_cases hk1:¬(aU z3 z1=1)
   ·have s1:(aU z3 z1 == 1)=false:=by simpa using hk1
    clear hk1 HPk;rw [s1,Bool.false_or] at HCd;rw [HCd.out] at HGr;go_wp2_with fail;refine (HGr.out _).mono ?_;rintro e _ ⟨rfl,n',rfl⟩;go_wp2;go_meet;exact ⟨rfl,below_drewN (Below.refl _ _) _⟩
   ·have s1:(aU z3 z1 == 1)=true:=by simpa using hk1
    have hc:cnd=true:=by rw [<-HCd.out,s1];rfl
    subst hc;clear hk1 HPk;go_wp2;go_meet;exact ⟨rfl,below_drewN (Below.refl _ _) _⟩
  obtain ⟨rfl,nc⟩:=hcut;have mc:=bst m11 nc;replace HO:=hid (HO.out.keep mc HO.out.facts.2.2.1);have hbc:=bst hb mc;clear HPk HGr HCd h3 h4 h5 k0 b0 b2 lh lk;cases cnd
  ·go_wp2;go_roundw
   case rel=>exact ⟨j+1,g,cap,by omega,by go_num,by rw [HST.out];rfl,by rw [HST.out];exact HO.out,hbc⟩
   case measure=>simp [intOf];omega
  obtain ⟨tg,htg⟩:∃tg,dP va z1=tg:=⟨_,rfl⟩;obtain ⟨bt,hbt⟩:∃bt,bJ z3 32=bt:=⟨_,rfl⟩;have HTg:Hid (∀u,Calls Tryz.prog 38 #[VU va,VI z1] u fun e w'=>e=.returned (VU tg)∧Bw u w'):=fun u=>by
   rw [<-htg];exact (sK va z1 u hva.1 hva.2 hyb.1.1 hyb.1.2).mono (by rintro e _ ⟨rfl,n,rfl⟩;exact ⟨rfl,below_drewN (Below.refl _ _) _⟩)
  have HBt:Hid (∀u,Calls Tryz.prog 41 #[VU z3,VI 5] u fun e w'=>e=.returned (.bool bt)∧Bw u w'):=fun u=>by
   rw [<-hbt];exact (bV z3 5 32 u hyb.2.1 hyb.2.2 (by omega) (by omega) rfl).mono (by rintro e _ ⟨rfl,n,rfl⟩;exact ⟨rfl,below_drewN (Below.refl _ _) _⟩)
  have HSG:Hid (dJ h kind va (rs.take (j+1)) gs=qc A (tg,asd,bt,z1,z2,z3)):=by
   show _=_;rw [HST.out,if_pos rfl];unfold fj;simp only [htg,hbt,HASD.out]
  replace H11:=ah H11 nc;replace W2:=ah W2 nc;generalize wc=v12 at *;clear HST htg hbt W1 mc nc hyb l11 m11;have lk:w.heap.size+1<v12.heap.size:=hpl W2.out;have l16:vs.heap.size<v12.heap.size:=hpl H11.out;have L1:=hid fun u (hu:Bw v12 u)=>jdu (Below.cell2 hu (ab W2.out 1 (v:=VU va) rfl) lk);have L2:=hid fun u (hu:Bw v12 u)=>jdi (Below.cell2 hu (ab H11.out 0 (v:=VI z1) rfl) l16);have L3:=hid fun u (hu:Bw v12 u)=>jdu (Below.cell2 hu (ab H11.out 2 (v:=VU z3) rfl) l16);have L4:=hid fun u (hu:Bw v12 u)=>aW (P:=Tryz.prog) (T:=118) (ah H11 hu).out Tryz.underlying118 rfl (by kernel_rfl);go_upto_region 23 with fail;have hF:=bdr v12;refine ax (Bw v12) 12 ?_;refine aj 0 125 (PT (w.heap.size+1) 1) rfl hF ?_
  go_frame
  refine aj 1 126 _ rfl hF ?_ (hy:=fun u hu=>aD rfl (L1.out u hu));refine aj 2 127 (PT vs.heap.size 0) rfl hF ?_
  go_frame
  refine aj 3 128 _ rfl hF ?_ (hy:=fun u hu=>aD rfl (L2.out u hu));refine aj 5 130 (VU asd) rfl hF ?_;refine aj 6 131 (PT vs.heap.size 2) rfl hF ?_
  go_frame
  refine aj 7 132 _ rfl hF ?_ (hy:=fun u hu=>aD rfl (L3.out u hu));refine aj 9 134 _ rfl hF ?_ (hy:=fun u hu=>aD rfl (L4.out u hu))
  go_frame
  refine DW 4 8 10 11 129 133 135 17 (VU tg) (.bool bt) (.agg #[VU tg,VU asd,.bool bt,VI z1,VU z2,VU z3]) (Z:=#[VU 0,VU 0,.bool false,VI 0,VU 0,VU 0]) (T:=120) rfl rfl rfl rfl rfl (fun u hu=>bst hF hu) HTg.out HBt.out ?_;intro p17 u hp hq hbu;replace hp:v12.heap.size<=p17:=hp;have HS:=hid (aR (P:=Tryz.prog) (T:=120) (V:=#[VU tg,VU asd,.bool bt,VI z1,VU z2,VU z3]) hq ghI rfl (by simp [Value.oneCell']));have H17:=hid (aI (V:=#[VU tg,VU asd,.bool bt,VI z1,VU z2,VU z3]) hq rfl);have n13:Bw v12 _:=aK hp (#[VU tg,VU asd,.bool bt,VI z1,VU z2,VU z3]:Array Value).toList 0 _ (bst hF hbu)
  go_frame
  refine dz 12 17 135 rfl HS.out ?_;refine dc ?_;generalize u.setCells p17 0 (#[VU tg,VU asd,.bool bt,VI z1,VU z2,VU z3]:Array Value).toList=v13 at H17 n13 |-;clear HS hq hbu hF L1 L2 L3 L4 HTg HBt W2 H11 lk l16 hp;replace HO:=hid (HO.out.keep n13 HO.out.facts.2.2.1);have hbd:=bst hbc n13;clear n13 hbc;go_wp2;go_loopw [18,19] (fun kn ii wr=>∃i:Nat,i<=A.length∧ii=VI i∧kn=.bool (decide ((tg,asd,bt,z1,z2,z3)∈A.take i))∧Bw v13 wr) (fun _ ii _=>A.length-(intOf ii).toNat)
  case atStart=>exact ⟨0,Nat.zero_le _,rfl,rfl,Below.refl _ _⟩
  case round=>
  obtain ⟨i,hi,rfl,rfl,hb4⟩:=hrel;have Y17:=ah H17 hb4;have HO4:=hid (HO.out.keep hb4 HO.out.facts.2.2.1);have l17:p17<wr.heap.size:=hpl Y17.out;have f0:=ab Y17.out 0 (v:=VU tg) rfl;have f1:=ab Y17.out 1 (v:=VU asd) rfl;have f2:=ab Y17.out 2 (v:=.bool bt) rfl;have f3:=ab Y17.out 3 (v:=VI z1) rfl;have f4:=ab Y17.out 4 (v:=VU z2) rfl;have f5:=ab Y17.out 5 (v:=VU z3) rfl;by_cases hil:i<A.length
  ·obtain ⟨q,hq⟩:∃q,A[i]?=some q:=⟨_,List.getElem?_eq_getElem hil⟩;obtain ⟨lg,c0',c1,c2,c3,c4,c5⟩:=uP HO4.out.row hq;have HMi:Hid (decide ((tg,asd,bt,z1,z2,z3)∈A.take (i+1))=(decide ((tg,asd,bt,z1,z2,z3)∈A.take i) || decide (q=(tg,asd,bt,z1,z2,z3)))):=by
    show _=_;rw [List.take_add_one,hq];by_cases e:q=(tg,asd,bt,z1,z2,z3)
    ·subst e;simp
    ·have:¬(tg,asd,bt,z1,z2,z3)=q:=fun h=>e h.symm;simp [e,this]
   have he:=fun u=>GQ q (tg,asd,bt,z1,z2,z3) u;obtain ⟨q1,q2,q3,q4,q5,q6⟩:=q;simp only [Nat.zero_add] at c0' c1 c2 c3 c4 c5;simp only [ghA] at he;generalize decide ((q1,q2,q3,q4,q5,q6)=(tg,asd,bt,z1,z2,z3))=ee at he HMi;generalize decide ((tg,asd,bt,z1,z2,z3)∈A.take i)=bb at *;have hil':decide ((i:Int)<(A.length:Int))=true:=by simp;omega
   clear hq;go_upto_region 28 with fail;cases bb
   ·go_quiet (fail);go_wp2;go_roundw
    case rel=>exact ⟨i+1,by omega,by go_num,by rw [HMi.out];rfl,below_drewN hb4 _⟩
    case measure=>simp [intOf];omega
   ·go_quiet (fail);go_wp2;go_roundw
    case rel=>exact ⟨i+1,by omega,by go_num,by rw [HMi.out];rfl,below_drewN hb4 _⟩
    case measure=>simp [intOf];omega
  ·have hin:i=A.length:=by omega
   subst hin;have hil':decide ((A.length:Int)<(A.length:Int))=false:=by simp
   rw [List.take_length];have nE:=bst hbd hb4;by_cases hkn:¬((tg,asd,bt,z1,z2,z3)∈A)
   ·have hd:decide ((tg,asd,bt,z1,z2,z3)∈A)=false:=by simpa using hkn
    have HAG:Hid (dJ h kind va (rs.take (j+1)) gs=A++[(tg,asd,bt,z1,z2,z3)]):=by
     show _=_;rw [HSG.out];unfold qc;rw [if_neg hkn]
    rw [hd];obtain ⟨v14,E14,n14,R14⟩:=CH wr tg asd bt z1 z2 z3;have O14:=hid (HO4.out.keep n14 HO4.out.facts.2.2.1);have n14':=bst nE n14;clear hkn hd HO4;go_wp2_with (at_builtin;rw [E14.out];refine iC _ rfl (.tmp 153) (.tmp 155) 49 rfl 120 Tryz.undGh (.agg #[VU 0,VU 0,.bool false,VI 0,VU 0,VU 0]) 6 48 Tryz.infoGh rfl (by decide) vr.heap.size _ _ _ _ rfl O14.out (some (AD wr.heap.size 0)) 1 1 (ghC (tg,asd,bt,z1,z2,z3)) rfl (fun h=>by cases h) (fun q h=>by cases h;rfl) R14.out (vQ _) (by omega) (by omega) vr.heap.size vr n14' nle ?_;intro g' c' w3 oN bN);go_roundw
    case rel=>
     refine ⟨j+1,g',c',by omega,by go_num,?_,?_,bN⟩
     ·rw [HAG.out];simp
     ·rw [HAG.out,sX];simpa [iq] using oN
    case measure=>simp [intOf];omega
   ·have hd:decide ((tg,asd,bt,z1,z2,z3)∈A)=true:=by simpa using hkn
    have HAG:Hid (dJ h kind va (rs.take (j+1)) gs=A):=by
     show _=_;rw [HSG.out];unfold qc;rw [if_pos (Decidable.not_not.1 hkn)]
    rw [hd];clear hkn hd;go_wp2;go_roundw
    case rel=>exact ⟨j+1,g,cap,by omega,by go_num,by rw [HAG.out],by rw [HAG.out];exact HO4.out,nE⟩
    case measure=>simp [intOf];omega
 ·have hjn:j=rs.length:=by omega
  subst hjn;have hjl':decide ((rs.length:Int)<(rs.length:Int))=false:=by simp
  rw [List.take_length] at HO;rw [List.take_length];have nE:=bst n1r hb;go_wp2;exact bodyPost_ret (v:=.tuple #[.bool true,SL g (dJ h kind va rs gs).length cap]) (by simp [results,Tryz.results15,go_sem]) rfl ⟨⟨g,⟨cap,rfl⟩,HO.out.row,.inr (Nat.le_trans n1r.size HO.out.facts.2.1)⟩,nE⟩
end
end Go.Proofs.YthdgiakgepmabaaGreat
