import Derived.Test.YthdgiakgepmabaaGreatPk23
import Derived.Test.YthdgiakgepmabaaGreatPk12
namespace Go.Proofs.YthdgiakgepmabaaGreat
open Go.RowKit
set_option linter.unusedVariables false
set_option maxHeartbeats 6400000
set_option maxRecDepth 20000
section
open Go.RowKit Go.Maps
abbrev wtA (mb:Nat) (c:Bool):Array Value:=#[.map (some mb),.bool c]
theorem ldm {v:World} {b i:Nat} {mb:Nat} (h:v.cell? (AD b i)=some (.map (some mb))):(Instr.loadAt 63 (PT b i)).run Tryz.prog v=.ok (.map (some mb)) v:=by go_simp
theorem ldr {v:World} {b i n m:Nat} {a:Option Addr} (h:v.cell? (AD b i)=some (.slice a n m)):(Instr.loadAt 112 (PT b i)).run Tryz.prog v=.ok (.slice a n m) v:=by go_simp
theorem mz {h:HartM} {kind:Int}:∀{ps:List aD},(∀p∈ps,aV p.2.2 p.1=1)->dG h kind ps=ps:=fun hp=>List.filter_eq_self.2 fun p hm=>by simp [hp p hm]
theorem re {h:HartM} {kind:Int} {ps:List aD} (hp:∀p∈ps,aV p.2.2 p.1=1) {r:aD} (hr:aV r.2.2 r.1=2):dG h kind (ps++[r])=if bZ r.2.2 kind h.mode h.sum h.mxr=true then ps++[r] else ps:=by
 have e:=mz (h:=h) (kind:=kind) hp;unfold dG at e |-;rw [List.filter_append,e];cases hg:bZ r.2.2 kind h.mode h.sum h.mxr <;> simp [hr,hg]
theorem tw (kind mode:Int) (sum mxr:Bool):bZ 0 kind mode sum mxr=false:=by
 rw [lX];simp [iA,aZ]
theorem pe {e:TypeId} {size base n c:Nat} {w:World} {a:Option Addr} {cs:List Value} (h:w.ownsRow base e size (.slice a n c) n cs) (hn:0<n):∃g,a=some (AD g 0):=by
 rcases h.2 with ⟨_,h2⟩ | ⟨g,cap,cur,h1,_⟩
 ·omega
 ·simp only [Value.slice.injEq] at h1;exact ⟨g,h1.1⟩
theorem wU {w:World} {base:Nat} {ra:Option Addr} {rc n:Nat} {ps:List aD} {r:aD} (h:w.ownsRow base 118 3 (.slice ra (n+1) rc) (n+1) (bu (ps++[r]))) (hn:ps.length=n):∃g,ra=some (AD g 0)∧n+1<=rc∧rc<=9223372036854775807∧base<=g∧RowC w (some (AD g 0)) (n+1) 3 (bu (ps++[r]))∧RowC w (some (AD g 0)) n 3 (bu ps):=by
 obtain ⟨g,hg⟩:=pe h (by omega);subst hg;have ha:=bx h;have hr:RowC w (some (AD g 0)) (n+1) 3 (bu (ps++[r])):=OwnC.row h;have hcap:n+1<=rc∧rc<=maxLen:=by
  rcases h.2 with ⟨h2,_⟩ | ⟨g',cap',cur,h2,_,_,hn',hm',_⟩
  ·simp at h2
  ·simp at h2;obtain ⟨rfl,rfl⟩:=h2;exact ⟨hn',hm'⟩
 refine ⟨g,rfl,hcap.1,by have:=hcap.2;unfold maxLen at this;omega,ha.2.1,hr,?_⟩;have hl:∀l:List aD,(bu l).length=l.length*3:=by
  intro l
  induction l with
  | nil=>rfl
  | cons x xs ih=>simp [bu,tR,ih];omega
 refine ⟨by rw [hl,hn],?_⟩;by_cases h0:n=0
 ·exact .inl h0
 ·rcases hr.2 with h' | ⟨b,off,e,lt,hc⟩
  ·omega
  ·refine .inr ⟨b,off,e,lt,fun i v hv=>hc i v ?_⟩;rw [fK];exact (List.getElem?_append_left (List.getElem?_eq_some_iff.1 hv).1).trans hv
theorem rf {w:World} {e:TypeId} {size base n c:Nat} {a:Option Addr} {cs:List Value} (h:w.ownsRow base e size (.slice a n c) n cs):RowC w a n size cs:=by
 by_cases hn:n=0
 ·exact ⟨h.1,.inl hn⟩
 ·obtain ⟨g,rfl⟩:=pe h (by omega);exact OwnC.row h
theorem zZ (v:World) (x y z:Value) (h:(#[x,y,z]:Array Value).all (·.oneCell')=true):∃v',(Instr.storeAt 284 (PT v.heap.size 0) (.agg #[x,y,z])).run Tryz.prog (v.alloc (Obj.cells #[VI 0,VU 0,SN] 284))=.ok () v'∧Hid (v'.heap[v.heap.size]?=some (.cells #[x,y,z] 284 (0,0)))∧v.heap.size<v'.heap.size∧Bw v v':=by
 have a:=bN v #[VI 0,VU 0,SN] 284;refine ⟨_,dh (P:=Tryz.prog) (T:=284) a.1 (by kernel_rfl) rfl h,cD a.1 rfl,?_,dn nle _ _ _ a.2.2⟩;rw [fP,a.2.1];exact Nat.lt_succ_self _
def ke (wb mb n:Nat) (c:Bool) (gm:List (bB × aD)) (h:HartM) (kind va:Int) (w:World) (e:Ending) (w':World):Prop:=
 e=.returned (.tuple #[])∧w'.heap[wb]?=some (.cells (wtA mb (c || !eh gm (aU h.mem h.satp va).2.2.2 va (aB h.satp))) 67 (0,0))∧
 GMap w' mb (n+3) (fU va (aB h.satp) (dG h kind (aU h.mem h.satp va).2.2.2) gm)∧Kp (fun i=>i=wb∨i=mb) w w'
theorem vn (wb mb n:Nat) (c:Bool) (gm:List (bB × aD)) (h:HartM) (sv:Value) (kind va:Int) (w:World) (hW:w.heap[wb]?=some (.cells (wtA mb c) 67 (0,0))) (hG:GMap w mb n gm) (hn:n+3<1048576) (hs:SrcAt w sv h.mem) (hsp:inU h.satp) (hv:inU va):
 Calls Tryz.prog 159 #[PT wb 0,sv,gz h,VI kind,VU va] w fun e w'=>ke wb mb n c gm h kind va w e w':=by
 have hne:wb≠mb:=by
  obtain ⟨es,cl,h1⟩:=hG.blk;rintro rfl;rw [hW] at h1;cases h1
 have lW:=hpl hW;have lM:=hG.lt;obtain ⟨hv0,hv1⟩:=hv;obtain ⟨hs0,hs1⟩:=hsp;obtain ⟨ps,hsplit,hpl3⟩:=lL h.mem h.satp va hs.bd;have ha:0<=aB h.satp∧aB h.satp<=65535:=by unfold aB;omega
 obtain ⟨v1,Ev1,n1,H1,l1⟩:=al1 w #[VI h.mode,.bool h.sum,.bool h.mxr,VU h.satp] 110;have CW:=hid (eE sv h.mem va h.satp v1 (hs.keep n1) hv0 hv1 hs0 hs1);have CA:=hid (gP h.satp v1 hs0 hs1);unfold ke;obtain ⟨asd,hasd⟩:∃asd,aB h.satp=asd:=⟨_,rfl⟩;rw [hasd] at ha CA |-;obtain ⟨⟨cd,lv,lf,rs⟩,hX⟩:∃X,aU h.mem h.satp va=X:=⟨_,rfl⟩;rw [hX] at hsplit CW |-;obtain ⟨N,hN⟩:∃N,rs.length=N:=⟨_,rfl⟩;have HN:=hid hN;have hrn:N<=3:=by
  rw [<-hN];rcases hsplit.2 with ⟨_,⟨ad,e⟩,_⟩ | ⟨_,e,_⟩
  ·simp only at e;rw [e];simp;omega
  ·simp only at e;rw [e];omega
 obtain ⟨wi,hwi⟩:∃wi,eh gm rs va asd=wi:=⟨_,rfl⟩;have HWI:=hid hwi;simp only [hwi];have HSp:=hid hsplit;have HG1:=hid (hG.keep n1);have HW1:=hid (ag hW n1 lW);clear hX hasd hN hwi hs hG hW hsplit;unfold gz;go_enter Tryz.func159,Tryz.ntmps159;go_upto_region 1 with fail;rw [Ev1.out];clear Ev1;obtain ⟨⟨c0,c1,c2,c3⟩,_⟩:=aO H1.out;go_wp2_with fail;refine Calls.mono CA.out ?_;rintro e v ⟨rfl,hvv⟩;rw [hvv];clear hvv;go_wp2_with fail;refine Calls.mono CW.out ?_;rintro e v2 ⟨hw,n2⟩;obtain ⟨ra,rc,rfl,o2⟩:=hw;simp only [HN.out] at o2 |-;obtain ⟨fv,hfv⟩:∃fv,bg cd=fv:=⟨_,rfl⟩;rw [hfv];obtain ⟨v3,hs3,P3,l3,n3⟩:=zZ v2 (VI lv) (VU lf) (.slice ra N rc) (by simp [Value.oneCell']);have HS3:=hid hs3;have n13:=bst n2 n3;have O3:=hid (ai o2 n3);have H3:=ae H1 n13;have W3:=ae HW1 n13;have G3:=hid (HG1.out.keep n13);have N3:=hid (bst n1 n13);have s3:=(bst n1 n13).size;have s2:=n2.size;clear hs3 hfv o2 n2 n3 H1 HW1 HG1 c0 c1 c2 c3 CA CW n13;go_upto_region 3 with (first | ((with_reducible refine bI ?_ ?_ HS3.out ?_);(exact rfl);(exact rfl)));clear HS3;have R3:Hid (RowC v3 ra N 3 (bu rs)):=rf O3.out;have CI:Hid (∀u,Bw v3 u->Calls Tryz.prog 165 #[.map (some mb),.slice ra N rc,VU va,VU asd] u fun e w'=>e=.returned (.bool wi)∧Bw u w'):=fun u hu=>by
  have:=tZ mb n gm ra rc rs va asd u (G3.out.keep hu) (by rw [HN.out];exact R3.out.keep hu) (by rw [HN.out];exact hrn) hv0 hv1 ha.1 ha.2;rw [HWI.out,HN.out] at this;exact this
 have HLm:=hid fun u (hu:Bw v3 u)=>ldm (aa (ae W3 hu).out 0 (v:=.map (some mb)) rfl);have HLr:=hid fun u (hu:Bw v3 u)=>ldr (aa (ae P3 hu).out 2 (v:=.slice ra N rc) rfl);have hF:=bdr v3;refine ax (Bw v3) 9 ?_;refine ak 0 25 (PT wb 0) rfl hF ?_
 go_frame
 refine ak 1 26 (PT wb 0) rfl hF ?_
 go_frame
 refine ak 2 27 (PT wb 0) rfl hF ?_
 go_frame
 refine ak 3 28 _ rfl hF ?_ (hy:=fun u hu=>aP rfl (HLm.out u hu));refine ak 4 29 (PT v2.heap.size 2) rfl hF ?_
 go_frame
 refine ak 5 30 _ rfl hF ?_ (hy:=fun u hu=>aP rfl (HLr.out u hu));refine ak 6 31 (VU va) rfl hF ?_;refine ak 7 32 (VU asd) rfl hF ?_
 go_frame
 refine jq 8 33 rfl ((CI.out _ hF).mono ?_);rintro e v4 ⟨rfl,n4'⟩;have n4:=bst hF n4';refine ⟨_,rfl,fun _=>n4,?_⟩
 go_frame
 refine jr 9 rfl ?_;have H4:=ae H3 n4;have W4:=ae W3 n4;have P4:=ae P3 n4;have G4:=hid (G3.out.keep n4);have O4:=hid (ai O3.out n4);have N4:=hid (bst N3.out n4);have s4:v2.heap.size<v4.heap.size:=hpl P4.out;have hL2:w.heap.size<v2.heap.size:=by omega
 clear HLm HLr CI hF n4' n4 H3 W3 P3 G3 O3 R3 N3;have FIN:∀v5,(v4=v5∧wi=true)∨(v4.setCell (AD wb 1) (.bool true)=v5∧wi=false)->
  Hid (v5.heap[wb]?=some (.cells (wtA mb (c || !wi)) 67 (0,0)))∧Hid (GMap v5 mb n gm)∧Hid (v5.heap[v2.heap.size]?=some (.cells #[VI lv,VU lf,.slice ra N rc] 284 (0,0)))∧
  Hid (v5.heap[w.heap.size]?=some (.cells #[VI h.mode,.bool h.sum,.bool h.mxr,VU h.satp] 110 (0,0)))∧Hid (v5.ownsRow v1.heap.size 118 3 (.slice ra N rc) N (bu rs))∧Hid (Kp (fun i=>i=wb∨i=mb) w v5)∧v4.heap.size<=v5.heap.size:=by
  rintro v5 (⟨rfl,rfl⟩ | ⟨rfl,rfl⟩)
  ·exact ⟨by rw [Bool.not_true,Bool.or_false];exact W4,G4,P4,H4,O4,Kp.of_below _ N4.out,nle⟩
  ·have g5:=aj (ap v4 (some wb)) 1 (.bool true);refine ⟨?_,G4.out.same (g5.block mb (by have:=N4.out.size;omega) (by simpa using Ne.symm hne)),aq P4.out g5 (by omega),aq H4.out g5 (by omega),ao O4.out g5 (by omega),(Kp.of_below _ N4.out).trans (Kp.of_gb g5 (.inl rfl)),g5.size⟩;rw [Bool.not_false,Bool.or_true];exact aG W4.out
 have f1:=ay W4.out 1;have w1:=aa W4.out 1 (v:=.bool c) rfl;have HC5:Hid _:=FIN;clear FIN H4 P4 G4 O4 N4;have CG:=hid fun u (h0:0<=lf) (h1:lf<=18446744073709551615)=>gh lf kind h.mode h.sum h.mxr u h0 h1;have CADD:Hid (∀(u:World) (ks:List aD) (a:Option Addr) (m:Nat),ks.length=m->m<=3->GMap u mb n gm->RowC u a m 3 (bu ks)->(∀r∈ks,(r.1=0∨r.1=1∨r.1=2)∧0<=r.2.2∧r.2.2<=18446744073709551615)->
  Calls Tryz.prog 168 #[.map (some mb),.slice a m rc,VU va,VU asd] u fun e w'=>e=.returned (.tuple #[])∧GMap w' mb (n+3) (fU va asd ks gm)∧u.grownBy w' (some mb)):=fun u ks a m hm h3 hg hr hl=>by
  subst hm;exact (zx mb n gm a rc ks va asd u hg hn hr h3 hl hv0 hv1 ha.1 ha.2).mono fun e w' ⟨h1,h2,h4⟩=>⟨h1,h2.mono (by omega),h4⟩
 have FIN2:Hid (∀v5 v6 v8:World,∀ks:List aD,Hid (v5.heap[wb]?=some (.cells (wtA mb (c || !wi)) 67 (0,0)))->Hid (Kp (fun i=>i=wb∨i=mb) w v5)->Bw v5 v6->dG h kind rs=ks->GMap v8 mb (n+3) (fU va asd ks gm)->v6.grownBy v8 (some mb)->
  v8.heap[wb]?=some (.cells (wtA mb (c || !wi)) 67 (0,0))∧GMap v8 mb (n+3) (fU va asd (dG h kind rs) gm)∧Kp (fun i=>i=wb∨i=mb) w v8):=fun v5 v6 v8 ks W5 K5 n6 e g8 b8=>by
  rw [e];exact ⟨aq (ae W5 n6).out b8 hne,g8,(K5.out.trans (Kp.of_below _ n6)).trans (Kp.of_gb b8 (.inr rfl))⟩
 cases wi
 focus
  go_upto_region 5 with fail;obtain ⟨W5,G5,P5,H5,O5,K5,s5⟩:=HC5.out (v4.setCell (AD wb 1) (.bool true)) (.inr ⟨rfl,rfl⟩);clear W4 f1 w1 HC5;generalize v4.setCell (AD wb 1) (.bool true)=v5 at *
 rotate_left
 focus
  go_upto_region 5 with fail;obtain ⟨v5,hv5⟩:∃v5,v4=v5:=⟨_,rfl⟩;obtain ⟨W5,G5,P5,H5,O5,K5,s5⟩:=HC5.out v5 (.inl ⟨hv5,rfl⟩);clear W4 f1 w1 HC5;rw [hv5];clear hv5
 all_goals
  have hwl:wb<v5.heap.size:=hpl W5.out;obtain ⟨⟨p0,p1,p2⟩,_⟩:=au P5.out;rcases HSp.out with ⟨hps,⟨e1,⟨ad,e2⟩,e3,e4,e5,e6,e7⟩ | ⟨e1,e2,e3⟩⟩
  ·simp only at e1 e2 e3 e4 e5 e6 e7;have hlf:lf≠0:=fun e0=>by rw [e0] at e3;exact nh lv e3
   have GH:=hid (re (h:=h) (kind:=kind) (fun p hp=>(hps p hp).1) (r:=(lv,ad,lf)) e3);have LV:Hid (∀r∈ps++[(lv,ad,lf)],(r.1=0∨r.1=1∨r.1=2)∧0<=r.2.2∧r.2.2<=18446744073709551615):=fun r hr=>by
    rcases List.mem_append.1 hr with hr | hr
    ·have:=hps r hr;exact ⟨by omega,this.2.2.2⟩
    ·cases List.mem_singleton.1 hr;exact ⟨by simp only;omega,e6,e7⟩
   obtain ⟨n',hn'⟩:∃n',ps.length=n':=⟨_,rfl⟩;obtain rfl:N=n'+1:=by rw [<-HN.out,e2];simp [hn']
   have ER:=hid e2;have HN':=hid hn';rw [e2] at O5;obtain ⟨g,rfl,hr1,hr2,hbg,rA,rB⟩:=wU O5.out hn';have CP:=hid (jH lv lf g n' rc v5 hlf (by omega) hr1 hr2);have RA:=hid rA;have RB:=hid rB;clear hn' e1 e2 e3 e4 e5 rA rB hps;go_wp2_with fail;refine Calls.mono CP.out ?_;rintro e v6 ⟨rfl,n6⟩;obtain ⟨⟨c0,c1,c2,c3⟩,_⟩:=aO (ae H5 n6).out;obtain ⟨⟨q0,q1,q2⟩,_⟩:=au (ae P5 n6).out;have m0:=aa (ae W5 n6).out 0 (v:=.map (some mb)) rfl;clear p0 p1 p2;go_wp2_with fail;refine (CG.out v6 e6 e7).mono ?_;rintro e v7 ⟨rfl,rfl⟩;cases hgr:bZ lf kind h.mode h.sum h.mxr
   ·simp only [hgr,Bool.false_eq_true,if_false] at GH;have CB:=hid (CADD.out v7 ps (some (AD g 0)) n' HN'.out (by omega) (G5.out.keep n6) (RB.out.keep n6) (fun r hr=>LV.out r (List.mem_append_left _ hr)));clear hgr;go_wp2_with fail;refine Calls.mono CB.out ?_;rintro e v8 ⟨rfl,g8,b8⟩;have FF:=hid (FIN2.out v5 v7 v8 ps W5 K5 n6 (by rw [ER.out];exact GH.out) g8 b8);clear g8 b8;go_wp2_with fail;exact ⟨rfl,.tuple #[],by kernel_rfl,rfl,FF.out⟩
   ·simp only [hgr,if_true] at GH;have CB:=hid (CADD.out v7 (ps++[(lv,ad,lf)]) (some (AD g 0)) (n'+1) (by simp [HN'.out]) (by omega) (G5.out.keep n6) (RA.out.keep n6) LV.out);clear hgr;go_wp2_with fail;refine Calls.mono CB.out ?_;rintro e v8 ⟨rfl,g8,b8⟩;have FF:=hid (FIN2.out v5 v7 v8 _ W5 K5 n6 (by rw [ER.out];exact GH.out) g8 b8);clear g8 b8;go_wp2_with fail;exact ⟨rfl,.tuple #[],by kernel_rfl,rfl,FF.out⟩
  ·simp only at e2 e3;subst e3;subst e2;have GH:=hid (mz (h:=h) (kind:=kind) (fun p hp=>(hps p hp).1));have LV:Hid (∀r∈rs,(r.1=0∨r.1=1∨r.1=2)∧0<=r.2.2∧r.2.2<=18446744073709551615):=fun r hr=>by
    have:=hps r hr;exact ⟨by omega,this.2.2.2⟩
   have CP:=hid (jG lv ra N rc v5);clear e1 hps;go_wp2_with fail;refine Calls.mono CP.out ?_;rintro e v6 ⟨rfl,n6⟩;obtain ⟨⟨c0,c1,c2,c3⟩,_⟩:=aO (ae H5 n6).out;obtain ⟨⟨q0,q1,q2⟩,_⟩:=au (ae P5 n6).out;have m0:=aa (ae W5 n6).out 0 (v:=.map (some mb)) rfl;clear p0 p1 p2;go_wp2_with fail;refine (CG.out v6 (by omega) (by omega)).mono ?_;rw [tw];rintro e v7 ⟨rfl,rfl⟩;have CB:=hid (CADD.out v7 rs ra N HN.out hrn (G5.out.keep n6) ((rf O5.out).keep n6) LV.out);go_wp2_with fail;refine Calls.mono CB.out ?_;rintro e v8 ⟨rfl,g8,b8⟩;have FF:=hid (FIN2.out v5 v7 v8 rs W5 K5 n6 GH.out g8 b8);clear g8 b8;go_wp2_with fail;exact ⟨rfl,.tuple #[],by kernel_rfl,rfl,FF.out⟩
end
theorem iP (h:HartM) (l:Int × Int):∀(ls:List (Int × Int)) (gs:List aw),aI h (ls++[l]) gs=if (aI h ls gs).1=true then cN (aI h ls gs).2 h l else aI h ls gs
 | [],gs=>by
  simp only [List.nil_append,aI];cases hj:cN gs h l with
  | mk a b=>cases a <;> simp
 | x::xs,gs=>by
  by_cases hx:(cN gs h x).1=true
  ·have e:∀ys,aI h (x::ys) gs=aI h ys (cN gs h x).2:=fun ys=>by rw [aI,if_pos hx]
   rw [List.cons_append,e,iP h l xs];simp only [e]
  ·have e:∀ys,aI h (x::ys) gs=(false,(cN gs h x).2):=fun ys=>by rw [aI,if_neg hx]
   rw [List.cons_append,e];simp [e]
theorem sG {g h:HartM} (h1:g.mode=h.mode) (h2:g.sum=h.sum) (h3:g.mxr=h.mxr) (kind:Int) (rs:List aD):dG g kind rs=dG h kind rs:=by
 unfold dG;rw [h1,h2,h3]
def WJ (h0:HartM) (gs0:List aw) (r:RunM) (c:Bool) (gm:List (bB × aD)):Prop:=
 ((aI h0 r.looks gs0).1=true->c=false∧RelG (cO r (aI h0 r.looks gs0).2) gm)∧((aI h0 r.looks gs0).1=false->c=true)
theorem WJ.look {pick kind va:Int} {h0:HartM} {gs0:List aw} {r:RunM} {c:Bool} {gm:List (bB × aD)} (hc:SameC 2 r h0) (hj:WJ h0 gs0 r c gm) (hon:onM r.h.mode r.h.satp=true) (hcn:bY va=true):
 WJ h0 gs0 (bb true pick r kind va) (c || !eh gm (aU r.h.mem r.h.satp va).2.2.2 va (aB r.h.satp)) (fU va (aB r.h.satp) (dG r.h kind (aU r.h.mem r.h.satp va).2.2.2) gm):=by
 unfold WJ at hj |-;have ea:∀gs,cO (bb true pick r kind va) gs=gs:=fun gs=>by unfold cO;rw [show (bb true pick r kind va).fenced=r.fenced from rfl,hc.nf];rfl
 have ea':∀gs,cO r gs=gs:=fun gs=>by unfold cO;rw [hc.nf];rfl
 rw [sG hc.mode hc.sum hc.mxr,hc.mem,hc.satp];rw [hc.mode,hc.satp] at hon;simp only [ea,ea'] at hj |-;rw [show (bb true pick r kind va).looks=r.looks++[(kind,va)] from rfl,iP];cases hJ:(aI h0 r.looks gs0).1
 ·rw [if_neg (by simp),hJ,hj.2 hJ];exact ⟨fun h=>(by cases h),fun _=>rfl⟩
 ·rw [if_pos rfl];obtain ⟨rfl,R⟩:=hj.1 hJ;rw [Bool.false_or,rW R];unfold cN;rw [if_neg (by rw [hon,hcn];simp)];cases hl:jT (aI h0 r.looks gs0).2 h0 va
  ·simp
  ·simp only [if_true];exact ⟨fun _=>⟨rfl,vN R h0 kind va hl⟩,fun h=>by cases h⟩
theorem WJ.skip {pick kind va:Int} {h0:HartM} {gs0:List aw} {r:RunM} {c:Bool} {gm:List (bB × aD)} (hc:SameC 2 r h0) (hj:WJ h0 gs0 r c gm) (hon:onM r.h.mode r.h.satp=false∨bY va=false):WJ h0 gs0 (bb true pick r kind va) c gm:=by
 unfold WJ at hj |-;have ea:∀gs,cO (bb true pick r kind va) gs=gs:=fun gs=>by unfold cO;rw [show (bb true pick r kind va).fenced=r.fenced from rfl,hc.nf];rfl
 have ea':∀gs,cO r gs=gs:=fun gs=>by unfold cO;rw [hc.nf];rfl
 rw [hc.mode,hc.satp] at hon;simp only [ea,ea'] at hj |-;rw [show (bb true pick r kind va).looks=r.looks++[(kind,va)] from rfl,iP];have e:cN (aI h0 r.looks gs0).2 h0 (kind,va)=(true,(aI h0 r.looks gs0).2):=by
  unfold cN;rw [if_pos hon]
 rw [e];cases hJ:(aI h0 r.looks gs0).1
 ·rw [if_neg (by simp),hJ];exact ⟨fun h=>(by cases h),fun _=>hj.2 hJ⟩
 ·rw [if_pos rfl];exact ⟨fun _=>hj.1 hJ,fun h=>by cases h⟩
theorem WJ.fence {h0:HartM} {gs0:List aw} {r:RunM} {c:Bool} {gm:List (bB × aD)} (hc:SameC 2 r h0) (hj:WJ h0 gs0 r c gm) (f:FenceM):WJ h0 gs0 (ju true r f) c (jE gm (dU f)):=by
 refine ⟨fun h=>?_,hj.2⟩;obtain ⟨h1,h2⟩:=hj.1 h;refine ⟨h1,?_⟩;unfold cO at h2;rw [hc.nf] at h2;exact vO h2 f
theorem lQ (plain:Bool) (pick kind:Int):∀(ps:List be) (r:RunM),(ab plain pick kind r ps).1.looks.length<=r.looks.length+ps.length
 | [],r=>by simp [ab]
 | p::ps,r=>by
  unfold ab;split
  ·have:=lQ plain pick kind ps (bb plain pick r kind p.1);simp only [bb,List.length_append,List.length_singleton] at this;simp only [List.length_cons];simp only [bb];omega
  ·simp [cf,bb]
theorem qL (plain:Bool) (pick kind va n:Int) (r:RunM):(az plain pick r kind va n).1.looks.length<=r.looks.length+2:=by
 have h:=lQ plain pick kind (bo va n) r;have hc:(bo va n).length<=2:=by unfold bo;split <;> simp
 unfold az;split
 ·split
  ·omega
  ·simp only [cf];omega
 ·omega
theorem ud {n:Nat} {c:Prop} [Decidable c] {a b:RunM} (ha:a.looks.length<=n) (hb:b.looks.length<=n):(if c then a else b).looks.length<=n:=by
 by_cases h:c
 ·rw [if_pos h];exact ha
 ·rw [if_neg h];exact hb
theorem yc (plain:Bool) (pick:Int) (r:RunM) (pc op a b c s x:Int):(doM plain pick r pc op a b c s x).looks.length<=r.looks.length+2:=by
 unfold doM eS dE iH;repeat' (with_reducible refine ud ?_ ?_)
 all_goals first
  | exact Nat.le_add_right _ _
  | exact qL plain pick _ _ _ r
theorem ue (plain:Bool) (pick:Int) (h:HartM):(aW plain pick h).looks.length<=3:=by
 have h1:(bU plain pick (bt plain pick h)).looks.length<=3:=by
  unfold bU gc kC;repeat' (with_reducible refine ud ?_ ?_)
  ·exact yc plain pick _ _ _ _ _ _ _ _
  all_goals simp [cf,bb,bt]
 unfold aW jz;exact ud h1 h1
theorem ye (ps:List Int) (i:Nat) (hi:i<ps.length) (h:HartM) (gs:List aw):
 go (ps.drop i) h gs i=if (aI h (aW true ps[i] h).looks gs).1=true then go (ps.drop (i+1)) (aW true ps[i] h).h (cO (aW true ps[i] h) (aI h (aW true ps[i] h).looks gs).2) (i+1) else (false,i):=by
 rw [List.drop_eq_getElem_cons hi,go]
section
open Go.RowKit Go.Maps
def wX (m:MP) (wb mb:Nat) (i:Nat):Prop:=i=m.gi∨i=m.gd∨i=m.gp∨i=wb∨i=mb
def WAt (w:World) (wb mb n:Nat) (c:Bool) (gm:List (bB × aD)):Prop:=w.heap[wb]?=some (.cells (wtA mb c) 67 (0,0))∧GMap w mb n gm
def wA (m:MP) (wb mb base:Nat) (h0:HartM) (gs0:List aw) (N:Nat) (w:World) (r:RunM):Prop:=
 RowsAt w base m.gi m.gd m.gp r.h.k∧∃c gm,WAt w wb mb (N+3*r.looks.length) c gm∧WJ h0 gs0 r c gm
def wI (m:MP) (wb mb base:Nat) (gs0:List aw) (N:Nat) (k:KM) (w:World):Prop:=
 RowsAt w base m.gi m.gd m.gp k∧∃gm,WAt w wb mb N false gm∧RelG gs0 gm
structure WDist (m:MP) (wb mb:Nat):Prop where
 pd:m.pd=61
 px:m.px=PT wb 0
 wi:wb≠m.gi
 wd:wb≠m.gd
 wp:wb≠m.gp
 mi:mb≠m.gi
 md:mb≠m.gd
 mp:mb≠m.gp
theorem WAt.same {w w':World} {wb mb n:Nat} {c:Bool} {gm:List (bB × aD)} (h:WAt w wb mb n c gm) (h1:w'.heap[wb]?=w.heap[wb]?) (h2:w'.heap[mb]?=w.heap[mb]?):WAt w' wb mb n c gm:=⟨h1.trans h.1,h.2.same h2⟩
theorem uD {w w':World} {m:MP} {wb mb base:Nat} {k:KM} (hd:WDist m wb mb) (h:RowsAt w base m.gi m.gd m.gp k) (hk:Kp (fun i=>i=wb∨i=mb) w w'):RowsAt w' base m.gi m.gd m.gp k:=
 hk.rows h (fun e=>e.elim (fun e=>hd.wi e.symm) (fun e=>hd.mi e.symm)) (fun e=>e.elim (fun e=>hd.wd e.symm) (fun e=>hd.md e.symm)) (fun e=>e.elim (fun e=>hd.wp e.symm) (fun e=>hd.mp e.symm))
theorem xF {m:MP} {wb mb:Nat} {w w':World} (h:Kp (fun i=>i=wb∨i=mb) w w'):Kp (wX m wb mb) w w':=h.mono fun i hi=>hi.elim (fun e=>.inr (.inr (.inr (.inl e)))) (fun e=>.inr (.inr (.inr (.inr e))))
theorem rT (wb:Nat) (w:World):(method 417 61 (PT wb 0) "loop.example/s0051/impl.phys").run Tryz.prog w=.ok (156,PT wb 0) w:=by kernel_rfl
theorem qp (wb:Nat) (w:World):(method 417 61 (PT wb 0) "loop.example/s0051/impl.fence").run Tryz.prog w=.ok (155,PT wb 0) w:=by kernel_rfl
theorem tM (args:Array Value) (w:World):(callFunc 156 args).run Tryz.prog w=.ok (.enter 156 args) w:=by kernel_rfl
theorem rU (args:Array Value) (w:World):(callFunc 155 args).run Tryz.prog w=.ok (.enter 155 args) w:=by kernel_rfl
theorem oM (b:Nat) (w:World):(method 417 61 (PT b 0) "loop.example/s0051/impl.begin").run Tryz.prog w=(do let r <-(do let p <-partAt (AD b 0) 0 0;pure ((65:TypeId),Place.var p));let v <-receiverAt r.1 r.2 false none;pure (154,v):Sem (FuncId × Value)).run Tryz.prog w:=by kernel_rfl
theorem oN (b:Nat) (w:World):(Instr.fieldAt 67 (PT b 0) 0).run Tryz.prog w=(do let a <-partAt (AD b 0) 0 0;pure (.pointer (some a)):Sem Value).run Tryz.prog w:=by kernel_rfl
theorem AC {w:World} {b:Nat} {A:Array Value} (h:w.heap[b]?=some (.cells A 67 (0,0))):(byteOf (AD b 0)).run Tryz.prog w=.ok 0 w:=by
 have e1:Tryz.prog.cellsOf 67=2:=by kernel_rfl
 have e2:byteOfCell Tryz.prog Tryz.prog.depth 67 0=some 0:=by kernel_rfl
 have hs:w.shape? b=some (67,A.size):=by simp [World.shape?,h]
 simp [byteOf,noView,viewAt,go_sem,hs,e1,e2]
theorem zT {w:World} {b:Nat} {A:Array Value} (h:w.heap[b]?=some (.cells A 67 (0,0))):(partAt (AD b 0) 0 0).run Tryz.prog w=.ok (AD b 0) w:=by
 have e:=AC h;simp [partAt,go_sem,e]
theorem zi {P:Program} {a:Act} {d:Option Tmp} {T ty:TypeId} {i:Nat} {x:Operand} {pos:String} {af:Array Edge} {g:Option (Nat × Bool)} {w:World} {b:Nat} {V:Value} (hx:a.eval x=PT b 0) (hl:(Instr.fieldAt T (PT b 0) i).run P w=.ok V w):
 (execOp a.eval { dst:=d,op:=.fieldAddr T x i,type:=ty,pos:=pos,after:=af,guard:=g }).run P w=.ok (.value V) w:=by
 unfold execOp;simp only [hx,Sem.run_bind,hl,Result.andThen_ok,Sem.run_pure]
theorem Bg {v:World} {b:Nat} {A:Array Value} (h:v.heap[b]?=some (.cells A 67 (0,0))):(Instr.fieldAt 67 (PT b 0) 0).run Tryz.prog v=.ok (PT b 0) v:=by
 rw [oN];simp [go_sem,zT h]
theorem Bh {v:World} {b:Nat} {A:Array Value} {T:TypeId} (h:v.heap[b]?=some (.cells A T (0,0))):(Instr.loadAt 65 (PT b 0)).run Tryz.prog v=.ok (.agg #[]) v:=
 hU (P:=Tryz.prog) (T:=65) h Tryz.underlying65 rfl (o:=0) (n:=0) [] (by kernel_rfl) (by simp) rfl
theorem Bj (b:Nat) (w:World):(receiverAt 65 (Place.var (AD b 0)) false none).run Tryz.prog w=(loadVar 65 (AD b 0)).run Tryz.prog w:=by kernel_rfl
theorem AE {v:World} {b:Nat} {x y z u:Value} (h:v.heap[b]?=some (.cells #[x,y,z,u] 110 (0,0))):(Instr.loadAt 110 (PT b 0)).run Tryz.prog v=.ok (.agg #[x,y,z,u]) v:=
 ey (P:=Tryz.prog) (T:=110) h Tryz.underlying110 rfl (by kernel_rfl)
def gN (wb mb n:Nat) (c:Bool) (gm:List (bB × aD)) (h:HartM) (kind va:Int) (v:World):Prop:=
 if (onM h.mode h.satp && bY va)=true then WAt v wb mb (n+3) (c || !eh gm (aU h.mem h.satp va).2.2.2 va (aB h.satp)) (fU va (aB h.satp) (dG h kind (aU h.mem h.satp va).2.2.2) gm) else WAt v wb mb n c gm
theorem vL (wb mb n:Nat) (c:Bool) (gm:List (bB × aD)) (r:RunM) (sv:Value) (kind va:Int) (w:World) (hW:WAt w wb mb n c gm) (hn:n+3<1048576) (hs:SrcAt w sv r.h.mem) (hr:ROk r) (hne:wb≠mb) (hsrc:∀u,Kp (fun i=>i=wb∨i=mb) w u->SrcAt u sv r.h.mem) (hv:inU va):
 Calls Tryz.prog 156 #[PT wb 0,sv,gz r.h,VI kind,VU va] w fun e w'=>e=.returned (.tuple #[VU (eA r.h.mem r.h.mode r.h.sum r.h.mxr r.h.satp kind va).1,bg (eA r.h.mem r.h.mode r.h.sum r.h.mxr r.h.satp kind va).2])∧gN wb mb n c gm r.h kind va w'∧Kp (fun i=>i=wb∨i=mb) w w':=by
 obtain ⟨v1,Ev1,n1,H1,l1⟩:=al1 w #[VI r.h.mode,.bool r.h.sum,.bool r.h.mxr,VU r.h.satp] 110;have lW:=hpl hW.1;have HT:=hid (fg r.h.mode r.h.sum r.h.mxr r.h.satp v1 hr.h.satp.1 hr.h.satp.2);have HCn:=hid fun u=>eG va u hv.1 hv.2;have HWt:Hid (∀u,Bw w u->Calls Tryz.prog 159 #[PT wb 0,sv,gz r.h,VI kind,VU va] u fun e w'=>ke wb mb n c gm r.h kind va u e w'):=fun u hu=>vn wb mb n c gm r.h sv kind va u (ag hW.1 hu lW) (hW.2.keep hu) hn (hs.keep hu) hr.h.satp hv;have HPh:Hid (∀u,Kp (fun i=>i=wb∨i=mb) w u->Calls Tryz.prog 160 #[.agg #[],sv,gz r.h,VI kind,VU va] u fun e w'=>e=.returned (.tuple #[VU (eA r.h.mem r.h.mode r.h.sum r.h.mxr r.h.satp kind va).1,bg (eA r.h.mem r.h.mode r.h.sum r.h.mxr r.h.satp kind va).2])∧Bw u w'):=fun u hu=>uA r sv kind va u (hsrc u hu) hr hv;have HW1:=hid hW;obtain ⟨⟨pa,fc⟩,hA⟩:∃A,eA r.h.mem r.h.mode r.h.sum r.h.mxr r.h.satp kind va=A:=⟨_,rfl⟩;rw [hA] at HPh |-;obtain ⟨fv,hfv⟩:∃fv,bg fc=fv:=⟨_,rfl⟩;simp only [hfv] at HPh |-;have FIN:Hid (∀v v':World,Hid (Kp (fun i=>i=wb∨i=mb) w v)->Hid (gN wb mb n c gm r.h kind va v)->Bw v v'->gN wb mb n c gm r.h kind va v'∧Kp (fun i=>i=wb∨i=mb) w v'):=fun v v' hk hl hb=>by
  refine ⟨?_,hk.out.trans (Kp.of_below _ hb)⟩;have:=hl.out;unfold gN at this |-;split
  ·rename_i hh;rw [if_pos hh] at this;exact ⟨ag this.1 hb (hpl this.1),this.2.keep hb⟩
  ·rename_i hh;rw [if_neg hh] at this;exact ⟨ag this.1 hb (hpl this.1),this.2.keep hb⟩
 have LK:Hid (∀v,gN wb mb n c gm r.h kind va v->∃c',v.heap[wb]?=some (.cells (wtA mb c') 67 (0,0))):=fun v hl=>by
  unfold gN at hl;split at hl
  ·exact ⟨_,hl.1⟩
  ·exact ⟨_,hl.1⟩
 clear hA hfv hW hs hr hsrc;unfold gz at HWt HPh |-;have LN:Hid (∀v,(onM r.h.mode r.h.satp && bY va)=false->WAt v wb mb n c gm->gN wb mb n c gm r.h kind va v):=fun v he hw=>by unfold gN;rw [if_neg (by rw [he];simp)];exact hw
 have LY:Hid (∀u v e,(onM r.h.mode r.h.satp && bY va)=true->ke wb mb n c gm r.h kind va u e v->gN wb mb n c gm r.h kind va v):=fun u v e he hw=>by unfold gN;rw [if_pos he];exact ⟨hw.2.1,hw.2.2.1⟩
 go_enter Tryz.func156,Tryz.ntmps156;go_upto_region 1 with fail;rw [Ev1.out];clear Ev1;obtain ⟨⟨c0,c1,c2,c3⟩,_⟩:=aO H1.out;go_wp2_with fail;refine Calls.mono HT.out ?_;rintro e v2 ⟨rfl,n2⟩;have n12:=bst n1 n2;have H2:=ae H1 n2;clear c0 c1 c2 c3 HT;obtain ⟨⟨c0,c1,c2,c3⟩,_⟩:=aO H2.out;cases hon:onM r.h.mode r.h.satp
 focus
  have KK:Hid (Kp (fun i=>i=wb∨i=mb) w v2):=Kp.of_below _ n12;have LL:Hid (gN wb mb n c gm r.h kind va v2):=LN.out v2 (by rw [hon];rfl) ⟨ag HW1.out.1 n12 lW,HW1.out.2.keep n12⟩;have HH:=H2;clear hon;go_upto_region 3 with fail;generalize v2=v3 at *
 rotate_left
 focus
  cases hcn:bY va
  focus
   have KK:Hid (Kp (fun i=>i=wb∨i=mb) w v2):=Kp.of_below _ n12;have LL:Hid (gN wb mb n c gm r.h kind va v2):=LN.out v2 (by rw [hcn,Bool.and_false]) ⟨ag HW1.out.1 n12 lW,HW1.out.2.keep n12⟩;have HH:=H2;have HC2:=hid (HCn.out v2);rw [hcn] at HC2;clear hon hcn HCn;go_wp2_with fail;refine Calls.mono HC2.out ?_;rintro e v3 ⟨rfl,rfl⟩;go_upto_region 3 with fail
  rotate_left
  focus
   have LL0:=hid fun v e hw=>LY.out v2 v e (by rw [hon,hcn];rfl) hw;have HC2:=hid (HCn.out v2);rw [hcn] at HC2;clear hon hcn HCn;go_wp2_with fail;refine Calls.mono HC2.out ?_;rintro e v3 ⟨rfl,rfl⟩;go_wp2_with fail;refine (HWt.out v3 n12).mono ?_;rintro e v4 ha;have LL:=hid (LL0.out v4 e ha);have KK:Hid (Kp (fun i=>i=wb∨i=mb) w v4):=(Kp.of_below _ n12).trans ha.2.2.2;have HH:Hid (v4.heap[w.heap.size]?=some (.cells #[VI r.h.mode,.bool r.h.sum,.bool r.h.mxr,VU r.h.satp] 110 (0,0))):=ha.2.2.2.heap H2.out (by have:=HW1.out.2.lt;omega);obtain ⟨rfl,_⟩:=ha;clear LL0 HC2 c0 c1 c2 c3 H2;go_upto_region 3 with fail;generalize v4=v3 at *
 all_goals
  obtain ⟨c',hw'⟩:=LK.out _ LL.out;have HW3:=hid hw';have HLp:=hid fun u (hu:Bw v3 u)=>Bh (ae HW3 hu).out;have HLf:=hid fun u (hu:Bw v3 u)=>Bg (ae HW3 hu).out;have HLc:=hid fun u (hu:Bw v3 u)=>AE (ae HH hu).out;clear hw';have hF:=bdr v3;refine ax (Bw v3) 12 ?_;refine ak 0 24 (PT wb 0) rfl hF ?_
  go_frame
  refine ak 1 25 (PT wb 0) rfl hF ?_
  go_frame
  refine ak 2 26 (PT wb 0) rfl hF ?_ (hy:=fun u hu=>zi rfl (HLf.out u hu))
  go_frame
  refine ak 3 27 _ rfl hF ?_ (hy:=fun u hu=>aP rfl (HLp.out u hu));refine ak 4 28 sv rfl hF ?_
  go_frame
  refine ak 5 29 _ rfl hF ?_ (hy:=fun u hu=>aP rfl (HLc.out u hu));refine ak 6 30 (VI kind) rfl hF ?_;refine ak 7 31 (VU va) rfl hF ?_
  go_frame
  refine jq 8 32 rfl ((HPh.out _ (KK.out.trans (Kp.of_below _ hF))).mono ?_);rintro e v4 ⟨rfl,n4'⟩;have n4:=bst hF n4';refine ⟨_,rfl,fun _=>n4,?_⟩
  go_frame
  refine ak 9 33 (VU pa) rfl n4 ?_;refine ak 10 34 fv rfl n4 ?_
  go_frame
  refine ak 11 10 (VU pa) rfl n4 ?_
  go_frame
  refine jr 12 rfl ?_;have FF:=hid (FIN.out v3 v4 KK LL n4);clear HLp HLc n4 n4' hF;go_wp2_with fail;exact bodyPost_ret (v:=.tuple #[VU pa,fv]) (by simp [results,Tryz.results156,go_sem]) rfl ⟨rfl,FF.out⟩
theorem tN (X:Nat->Prop) (wb mb n:Nat) (c:Bool) (gm:List (bB × aD)) (cv:Value) (f:FenceM) (w:World) (hW:WAt w wb mb n c gm) (hX:X mb) (hxn:∀i,X i->i<w.heap.size) (hC:CovFree X w cv f) (hf:inU f.va):
 Calls Tryz.prog 155 #[PT wb 0,cv] w fun e w'=>e=.returned (.tuple #[])∧WAt w' wb mb n c (jE gm (dU f))∧w.grownBy w' (some mb):=by
 have hne:wb≠mb:=by
  obtain ⟨es,cl,h1⟩:=hW.2.blk;rintro rfl;rw [hW.1] at h1;cases h1
 have HC:=hid (tL X cv f mb n gm w hW.2 hX (fun h=>by have:=hxn _ h;omega) hC hf);have m0:=aa hW.1 0 (v:=.map (some mb)) rfl;have HW:=hid hW.1;have lW:=hpl hW.1;clear hW hC;go_enter Tryz.func155,Tryz.ntmps155;go_wp2_with fail;refine Calls.mono HC.out ?_;rintro e v2 ⟨rfl,hg,hgb⟩;have FF:Hid (WAt v2 wb mb n c (jE gm (dU f))∧w.grownBy v2 (some mb)):=⟨⟨aq HW.out hgb hne,hg⟩,hgb⟩;clear hg hgb;go_wp2_with fail;exact ⟨rfl,.tuple #[],by kernel_rfl,rfl,FF.out⟩
theorem qq (m:MP) (wb mb base:Nat) (hd:WDist m wb mb) (hne:wb≠mb) (hb:m.b≠wb∧m.b≠mb) (pick:Int) (h0:HartM) (gs0:List aw) (N:Nat) (hN:N+9<1048576):PathOk m true pick h0 (wX m wb mb) (wI m wb mb base gs0 N h0.k) (wA m wb mb base h0 gs0 N):=by
 have hsame:∀{w w':World} {k:KM},RowsAt w base m.gi m.gd m.gp k->(∀i,wX m wb mb i->w'.heap[i]?=w.heap[i]?)->RowsAt w' base m.gi m.gd m.gp k:=fun h hx=>kT (m:=m) h fun i hi=>hx i (hi.elim .inl fun h=>h.elim (fun h=>.inr (.inl h)) fun h=>.inr (.inr (.inl h)));have hwat:∀{w w':World} {n:Nat} {c:Bool} {gm:List (bB × aD)},WAt w wb mb n c gm->(∀i,wX m wb mb i->w'.heap[i]?=w.heap[i]?)->WAt w' wb mb n c gm:=fun h hx=>h.same (hx _ (.inr (.inr (.inr (.inl rfl))))) (hx _ (.inr (.inr (.inr (.inr rfl)))));refine ⟨fun w w' r ⟨h1,c,gm,h2,h3⟩ _ hx=>⟨hsame h1 hx,c,gm,hwat h2 hx,h3⟩,fun w w' ⟨h1,gm,h2,h3⟩ _ hx=>⟨hsame h1 hx,gm,hwat h2 hx,h3⟩,?_,?_,?_,?_⟩
 ·rintro w r r' ⟨h1,c,gm,h2,h3⟩ e1 e2 e3 e4;refine ⟨by rw [e1];exact h1,c,gm,by rw [e2];exact h2,?_⟩;have ea:∀gs,cO r' gs=cO r gs:=fun gs=>by unfold cO;rw [e3,e4]
  unfold WJ at h3 |-;simp only [e2,ea];exact h3
 ·rintro w r sv kind va ⟨h1,c,gm,h2,h3⟩ hC hs hc hr hk0 hk2 hv;rw [hd.pd,hd.px];refine ⟨_,_,rT wb w,fun args u=>tM args u,?_⟩;refine (vL wb mb _ c gm r sv kind va w h2 (by have:=hc.few;omega) (hs w (Kp.refl _ w)) hr hne (fun u hu=>hs u (xF hu)) hv).mono ?_
  ·rintro e w' ⟨rfl,hl,hk⟩;have h:=mH r.h.mem r.h.mode r.h.sum r.h.mxr r.h.satp kind va ⟨hk0,hk2⟩ hr.h.v.mode;refine ⟨_,_,rfl,h.2,?_,⟨uD hd h1 hk,?_⟩,xF hk⟩
   ·unfold aM;rw [if_pos rfl];exact h.1
   ·unfold gN at hl;have ln:N+3*(bb true pick r kind va).looks.length=N+3*r.looks.length+3:=by simp [bb];omega
    rw [ln];split at hl
    ·rename_i hh;simp only [Bool.and_eq_true] at hh;exact ⟨_,_,hl,WJ.look hc h3 hh.1 hh.2⟩
    ·rename_i hh;refine ⟨_,_,⟨hl.1,hl.2.mono (by omega)⟩,WJ.skip hc h3 ?_⟩;cases h1:onM r.h.mode r.h.satp
     ·exact .inl rfl
     ·cases h2:bY va
      ·exact .inr rfl
      ·simp [h1,h2] at hh
 ·rintro w r cv f ⟨h1,c,gm,h2,h3⟩ hC hcv hc hr hv ha;rw [hd.pd,hd.px];refine ⟨_,_,qp wb w,fun args u=>rU args u,?_⟩;have hx:∀i,wX m wb mb i->i<w.heap.size:=by
   rintro i (rfl | rfl | rfl | rfl | rfl)
   ·exact (bx h1.1).2.2
   ·exact (bx h1.2.1).2.2
   ·exact (bx h1.2.2.1).2.2
   ·exact hpl h2.1
   ·exact h2.2.lt
  refine (tN _ wb mb _ c gm cv f w h2 (.inr (.inr (.inr (.inr rfl)))) hx hcv hv).mono ?_;rintro e w' ⟨rfl,hl,hg⟩;have hk:Kp (fun i=>i=wb∨i=mb) w w':=Kp.of_gb hg (.inr rfl);exact ⟨rfl,⟨uD hd h1 hk,c,_,hl,WJ.fence hc h3 f⟩,xF hk⟩
 ·rintro w ⟨h1,gm,h2,h3⟩ hC hh;rw [hd.pd,hd.px];refine ⟨_,.agg #[],(oM wb w).trans (by simp [go_sem,zT h2.1,Bj]),fun args u=>lH args u,?_⟩;refine (rC pick w).mono fun e w' h=>⟨h.1,?_,Kp.of_below _ h.2⟩;have e:(bt true pick h0).h.k=h0.k:=by
   unfold bt dz;rw [if_neg (by simp)];rfl
  refine ⟨by rw [e];exact fQ (m:=m) h1 h.2,false,gm,⟨ag h2.1 h.2 (hpl h2.1),h2.2.keep h.2⟩,fun _=>⟨rfl,h3⟩,fun hj=>by cases hj⟩
end
end Go.Proofs.YthdgiakgepmabaaGreat
