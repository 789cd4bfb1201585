import Derived.Test.YtkenjknmfhoppaaGreatPk23
namespace Go.Proofs.YtkenjknmfhoppaaGreat
open Go.RowKit
set_option linter.unusedVariables false
set_option maxHeartbeats 6400000
set_option maxRecDepth 20000
section
open Go.RowKit Go.Maps
def wX (m:MP) (wb mb:Nat) (i:Nat):Prop:=i=m.gi∨i=m.gd∨i=m.gp∨i=wb∨i=mb
def WAt (w:World) (wb mb n:Nat) (c:Bool) (gm:List (dh × aQ)):Prop:=w.heap[wb]?=some (.cells (wtA mb c) 74 (0,0))∧GMap w mb n gm
def wA (m:MP) (wb mb base:Nat) (h0:HartM) (gs0:List ay) (N:Nat) (w:World) (r:RunM):Prop:=
 RowsAt w base m.gi m.gd m.gp r.h.k∧∃c gm,WAt w wb mb (N+3*r.looks.length) c gm∧WJ h0 gs0 r c gm
def wI (m:MP) (wb mb base:Nat) (gs0:List ay) (N:Nat) (k:KM) (w:World):Prop:=
 RowsAt w base m.gi m.gd m.gp k∧∃gm,WAt w wb mb N false gm∧RelG gs0 gm
structure WDist (m:MP) (wb mb:Nat):Prop where
 pd:m.pd=68
 px:m.px=PT wb 0
 wi:wb≠m.gi
 wd:wb≠m.gd
 wp:wb≠m.gp
 mi:mb≠m.gi
 md:mb≠m.gd
 mp:mb≠m.gp
theorem WAt.same {w w':World} {wb mb n:Nat} {c:Bool} {gm:List (dh × aQ)} (h:WAt w wb mb n c gm) (h1:w'.heap[wb]?=w.heap[wb]?) (h2:w'.heap[mb]?=w.heap[mb]?):WAt w' wb mb n c gm:=⟨h1.trans h.1,h.2.same h2⟩
theorem Bz {w w':World} {m:MP} {wb mb base:Nat} {k:KM} (hd:WDist m wb mb) (h:RowsAt w base m.gi m.gd m.gp k) (hk:Kp (fun i=>i=wb∨i=mb) w w'):RowsAt w' base m.gi m.gd m.gp k:=
 hk.rows h (fun e=>e.elim (fun e=>hd.wi e.symm) (fun e=>hd.mi e.symm)) (fun e=>e.elim (fun e=>hd.wd e.symm) (fun e=>hd.md e.symm)) (fun e=>e.elim (fun e=>hd.wp e.symm) (fun e=>hd.mp e.symm))
theorem EL {m:MP} {wb mb:Nat} {w w':World} (h:Kp (fun i=>i=wb∨i=mb) w w'):Kp (wX m wb mb) w w':=h.mono fun i hi=>hi.elim (fun e=>.inr (.inr (.inr (.inl e)))) (fun e=>.inr (.inr (.inr (.inr e))))
theorem yA (wb:Nat) (w:World):(method 444 68 (PT wb 0) "loop.example/s0051/impl.phys").run Tryz.prog w=.ok (189,PT wb 0) w:=by kernel_rfl
theorem wm (wb:Nat) (w:World):(method 444 68 (PT wb 0) "loop.example/s0051/impl.fence").run Tryz.prog w=.ok (188,PT wb 0) w:=by kernel_rfl
theorem At (args:Array Value) (w:World):(callFunc 189 args).run Tryz.prog w=.ok (.enter 189 args) w:=by kernel_rfl
theorem yB (args:Array Value) (w:World):(callFunc 188 args).run Tryz.prog w=.ok (.enter 188 args) w:=by kernel_rfl
theorem un (b:Nat) (w:World):(method 444 68 (PT b 0) "loop.example/s0051/impl.begin").run Tryz.prog w=(do let r <-(do let p <-partAt (AD b 0) 0 0;pure ((72:TypeId),Place.var p));let v <-receiverAt r.1 r.2 false none;pure (187,v):Sem (FuncId × Value)).run Tryz.prog w:=by kernel_rfl
theorem uo (b:Nat) (w:World):(Instr.fieldAt 74 (PT b 0) 0).run Tryz.prog w=(do let a <-partAt (AD b 0) 0 0;pure (.pointer (some a)):Sem Value).run Tryz.prog w:=by kernel_rfl
theorem I9 {w:World} {b:Nat} {A:Array Value} (h:w.heap[b]?=some (.cells A 74 (0,0))):(byteOf (AD b 0)).run Tryz.prog w=.ok 0 w:=by
 have e1:Tryz.prog.cellsOf 74=2:=by kernel_rfl
 have e2:byteOfCell Tryz.prog Tryz.prog.depth 74 0=some 0:=by kernel_rfl
 have hs:w.shape? b=some (74,A.size):=by simp [World.shape?,h]
 simp [byteOf,noView,viewAt,go_sem,hs,e1,e2]
theorem Hz {w:World} {b:Nat} {A:Array Value} (h:w.heap[b]?=some (.cells A 74 (0,0))):(partAt (AD b 0) 0 0).run Tryz.prog w=.ok (AD b 0) w:=by
 have e:=I9 h;simp [partAt,go_sem,e]
theorem GI {P:Program} {a:Act} {d:Option Tmp} {T ty:TypeId} {i:Nat} {x:Operand} {pos:String} {af:Array Edge} {g:Option (Nat × Bool)} {w:World} {b:Nat} {V:Value} (hx:a.eval x=PT b 0) (hl:(Instr.fieldAt T (PT b 0) i).run P w=.ok V w):
 (execOp a.eval { dst:=d,op:=.fieldAddr T x i,type:=ty,pos:=pos,after:=af,guard:=g }).run P w=.ok (.value V) w:=by
 unfold execOp;simp only [hx,Sem.run_bind,hl,Result.andThen_ok,Sem.run_pure]
theorem JC {v:World} {b:Nat} {A:Array Value} (h:v.heap[b]?=some (.cells A 74 (0,0))):(Instr.fieldAt 74 (PT b 0) 0).run Tryz.prog v=.ok (PT b 0) v:=by
 rw [uo];simp [go_sem,Hz h]
theorem JD {v:World} {b:Nat} {A:Array Value} {T:TypeId} (h:v.heap[b]?=some (.cells A T (0,0))):(Instr.loadAt 72 (PT b 0)).run Tryz.prog v=.ok (.agg #[]) v:=
 ez (P:=Tryz.prog) (T:=72) h Tryz.underlying72 rfl (o:=0) (n:=0) [] (by kernel_rfl) (by simp) rfl
theorem JE (b:Nat) (w:World):(receiverAt 72 (Place.var (AD b 0)) false none).run Tryz.prog w=(loadVar 72 (AD b 0)).run Tryz.prog w:=by kernel_rfl
theorem Ja {v:World} {b:Nat} {x y z u:Value} (h:v.heap[b]?=some (.cells #[x,y,z,u] 134 (0,0))):(Instr.loadAt 134 (PT b 0)).run Tryz.prog v=.ok (.agg #[x,y,z,u]) v:=
 aT (P:=Tryz.prog) (T:=134) h Tryz.underlying134 rfl (by kernel_rfl)
def kK (wb mb n:Nat) (c:Bool) (gm:List (dh × aQ)) (h:HartM) (kind va:Int) (v:World):Prop:=
 if (onM h.mode h.satp && de va)=true then WAt v wb mb (n+3) (c || !gH gm (bO h.mem h.satp va).2.2.2 va (aO h.satp)) (jJ va (aO h.satp) (fL h kind (bO h.mem h.satp va).2.2.2) gm) else WAt v wb mb n c gm
theorem C7 (wb mb n:Nat) (c:Bool) (gm:List (dh × aQ)) (r:RunM) (sv:Value) (kind va:Int) (w:World) (hW:WAt w wb mb n c gm) (hn:n+3<1048576) (hs:SrcAt w sv r.h.mem) (hr:ROk r) (hne:wb≠mb) (hsrc:∀u,Kp (fun i=>i=wb∨i=mb) w u->SrcAt u sv r.h.mem) (hv:inU va):
 Calls Tryz.prog 189 #[PT wb 0,sv,ki r.h,VI kind,VU va] w fun e w'=>e=.returned (.tuple #[VU (hZ r.h.mem r.h.mode r.h.sum r.h.mxr r.h.satp kind va).1,cK (hZ r.h.mem r.h.mode r.h.sum r.h.mxr r.h.satp kind va).2])∧kK wb mb n c gm r.h kind va w'∧Kp (fun i=>i=wb∨i=mb) w w':=by
 obtain ⟨v1,Ev1,n1,H1,l1⟩:=al1 w #[VI r.h.mode,.bool r.h.sum,.bool r.h.mxr,VU r.h.satp] 134;have lW:=hpl hW.1;have HT:=hid (iM r.h.mode r.h.sum r.h.mxr r.h.satp v1 hr.h.satp.1 hr.h.satp.2);have HCn:=hid fun u=>ij va u hv.1 hv.2;have HWt:Hid (∀u,Bw w u->Calls Tryz.prog 192 #[PT wb 0,sv,ki r.h,VI kind,VU va] u fun e w'=>pM wb mb n c gm r.h kind va u e w'):=fun u hu=>Cs wb mb n c gm r.h sv kind va u (ae hW.1 hu lW) (hW.2.keep hu) hn (hs.keep hu) hr.h.satp hv;have HPh:Hid (∀u,Kp (fun i=>i=wb∨i=mb) w u->Calls Tryz.prog 193 #[.agg #[],sv,ki r.h,VI kind,VU va] u fun e w'=>e=.returned (.tuple #[VU (hZ r.h.mem r.h.mode r.h.sum r.h.mxr r.h.satp kind va).1,cK (hZ r.h.mem r.h.mode r.h.sum r.h.mxr r.h.satp kind va).2])∧Bw u w'):=fun u hu=>Bp r sv kind va u (hsrc u hu) hr hv;have HW1:=hid hW;obtain ⟨⟨pa,fc⟩,hA⟩:∃A,hZ r.h.mem r.h.mode r.h.sum r.h.mxr r.h.satp kind va=A:=⟨_,rfl⟩;rw [hA] at HPh |-;obtain ⟨fv,hfv⟩:∃fv,cK fc=fv:=⟨_,rfl⟩;simp only [hfv] at HPh |-;have FIN:Hid (∀v v':World,Hid (Kp (fun i=>i=wb∨i=mb) w v)->Hid (kK wb mb n c gm r.h kind va v)->Bw v v'->kK wb mb n c gm r.h kind va v'∧Kp (fun i=>i=wb∨i=mb) w v'):=fun v v' hk hl hb=>by
  refine ⟨?_,hk.out.trans (Kp.of_below _ hb)⟩;have:=hl.out;unfold kK at this |-;split
  ·rename_i hh;rw [if_pos hh] at this;exact ⟨ae this.1 hb (hpl this.1),this.2.keep hb⟩
  ·rename_i hh;rw [if_neg hh] at this;exact ⟨ae this.1 hb (hpl this.1),this.2.keep hb⟩
 have LK:Hid (∀v,kK wb mb n c gm r.h kind va v->∃c',v.heap[wb]?=some (.cells (wtA mb c') 74 (0,0))):=fun v hl=>by
  unfold kK at hl;split at hl
  ·exact ⟨_,hl.1⟩
  ·exact ⟨_,hl.1⟩
 clear hA hfv hW hs hr hsrc;unfold ki at HWt HPh |-;have LN:Hid (∀v,(onM r.h.mode r.h.satp && de va)=false->WAt v wb mb n c gm->kK wb mb n c gm r.h kind va v):=fun v he hw=>by unfold kK;rw [if_neg (by rw [he];simp)];exact hw
 have LY:Hid (∀u v e,(onM r.h.mode r.h.satp && de va)=true->pM wb mb n c gm r.h kind va u e v->kK wb mb n c gm r.h kind va v):=fun u v e he hw=>by unfold kK;rw [if_pos he];exact ⟨hw.2.1,hw.2.2.1⟩
 go_enter Tryz.func189,Tryz.ntmps189;go_upto_region 1 with fail;rw [Ev1.out];clear Ev1;obtain ⟨⟨c0,c1,c2,c3⟩,_⟩:=aP H1.out;go_wp2_with fail;refine Calls.mono HT.out ?_;rintro e v2 ⟨rfl,n2⟩;have n12:=bst n1 n2;have H2:=ah H1 n2;clear c0 c1 c2 c3 HT;obtain ⟨⟨c0,c1,c2,c3⟩,_⟩:=aP H2.out;cases hon:onM r.h.mode r.h.satp
 focus
  have KK:Hid (Kp (fun i=>i=wb∨i=mb) w v2):=Kp.of_below _ n12;have LL:Hid (kK wb mb n c gm r.h kind va v2):=LN.out v2 (by rw [hon];rfl) ⟨ae HW1.out.1 n12 lW,HW1.out.2.keep n12⟩;have HH:=H2;clear hon;go_upto_region 3 with fail;generalize v2=v3 at *
 rotate_left
 focus
  cases hcn:de va
  focus
   have KK:Hid (Kp (fun i=>i=wb∨i=mb) w v2):=Kp.of_below _ n12;have LL:Hid (kK wb mb n c gm r.h kind va v2):=LN.out v2 (by rw [hcn,Bool.and_false]) ⟨ae HW1.out.1 n12 lW,HW1.out.2.keep n12⟩;have HH:=H2;have HC2:=hid (HCn.out v2);rw [hcn] at HC2;clear hon hcn HCn;go_wp2_with fail;refine Calls.mono HC2.out ?_;rintro e v3 ⟨rfl,rfl⟩;go_upto_region 3 with fail
  rotate_left
  focus
   have LL0:=hid fun v e hw=>LY.out v2 v e (by rw [hon,hcn];rfl) hw;have HC2:=hid (HCn.out v2);rw [hcn] at HC2;clear hon hcn HCn;go_wp2_with fail;refine Calls.mono HC2.out ?_;rintro e v3 ⟨rfl,rfl⟩;go_wp2_with fail;refine (HWt.out v3 n12).mono ?_;rintro e v4 ha;have LL:=hid (LL0.out v4 e ha);have KK:Hid (Kp (fun i=>i=wb∨i=mb) w v4):=(Kp.of_below _ n12).trans ha.2.2.2;have HH:Hid (v4.heap[w.heap.size]?=some (.cells #[VI r.h.mode,.bool r.h.sum,.bool r.h.mxr,VU r.h.satp] 134 (0,0))):=ha.2.2.2.heap H2.out (by have:=HW1.out.2.lt;omega);obtain ⟨rfl,_⟩:=ha;clear LL0 HC2 c0 c1 c2 c3 H2;go_upto_region 3 with fail;generalize v4=v3 at *
 all_goals
  obtain ⟨c',hw'⟩:=LK.out _ LL.out;have HW3:=hid hw';have HLp:=hid fun u (hu:Bw v3 u)=>JD (ah HW3 hu).out;have HLf:=hid fun u (hu:Bw v3 u)=>JC (ah HW3 hu).out;have HLc:=hid fun u (hu:Bw v3 u)=>Ja (ah HH hu).out;clear hw';have hF:=bdr v3;refine az (Bw v3) 12 ?_;refine ao 0 24 (PT wb 0) rfl hF ?_
  go_frame
  refine ao 1 25 (PT wb 0) rfl hF ?_
  go_frame
  refine ao 2 26 (PT wb 0) rfl hF ?_ (hy:=fun u hu=>GI rfl (HLf.out u hu))
  go_frame
  refine ao 3 27 _ rfl hF ?_ (hy:=fun u hu=>aK rfl (HLp.out u hu));refine ao 4 28 sv rfl hF ?_
  go_frame
  refine ao 5 29 _ rfl hF ?_ (hy:=fun u hu=>aK rfl (HLc.out u hu));refine ao 6 30 (VI kind) rfl hF ?_;refine ao 7 31 (VU va) rfl hF ?_
  go_frame
  refine cW 8 32 rfl ((HPh.out _ (KK.out.trans (Kp.of_below _ hF))).mono ?_);rintro e v4 ⟨rfl,n4'⟩;have n4:=bst hF n4';refine ⟨_,rfl,fun _=>n4,?_⟩
  go_frame
  refine ao 9 33 (VU pa) rfl n4 ?_;refine ao 10 34 fv rfl n4 ?_
  go_frame
  refine ao 11 10 (VU pa) rfl n4 ?_
  go_frame
  refine kU 12 rfl ?_;have FF:=hid (FIN.out v3 v4 KK LL n4);clear HLp HLc n4 n4' hF;go_wp2_with fail;exact bodyPost_ret (v:=.tuple #[VU pa,fv]) (by simp [results,Tryz.results189,go_sem]) rfl ⟨rfl,FF.out⟩
theorem Au (X:Nat->Prop) (wb mb n:Nat) (c:Bool) (gm:List (dh × aQ)) (cv:Value) (f:FenceM) (w:World) (hW:WAt w wb mb n c gm) (hX:X mb) (hxn:∀i,X i->i<w.heap.size) (hC:CovFree X w cv f) (hf:inU f.va):
 Calls Tryz.prog 188 #[PT wb 0,cv] w fun e w'=>e=.returned (.tuple #[])∧WAt w' wb mb n c (oJ gm (fW f))∧w.grownBy w' (some mb):=by
 have hne:wb≠mb:=by
  obtain ⟨es,cl,h1⟩:=hW.2.blk;rintro rfl;rw [hW.1] at h1;cases h1
 have HC:=hid (Aq X cv f mb n gm w hW.2 hX (fun h=>by have:=hxn _ h;omega) hC hf);have m0:=ab hW.1 0 (v:=.map (some mb)) rfl;have HW:=hid hW.1;have lW:=hpl hW.1;clear hW hC;go_enter Tryz.func188,Tryz.ntmps188;go_wp2_with fail;refine Calls.mono HC.out ?_;rintro e v2 ⟨rfl,hg,hgb⟩;have FF:Hid (WAt v2 wb mb n c (oJ gm (fW f))∧w.grownBy v2 (some mb)):=⟨⟨aA HW.out hgb hne,hg⟩,hgb⟩;clear hg hgb;go_wp2_with fail;exact ⟨rfl,.tuple #[],by kernel_rfl,rfl,FF.out⟩
theorem wn (m:MP) (wb mb base:Nat) (hd:WDist m wb mb) (hne:wb≠mb) (hb:m.b≠wb∧m.b≠mb) (pick:Int) (h0:HartM) (gs0:List ay) (N:Nat) (hN:N+9<1048576):PathOk m true pick h0 (wX m wb mb) (wI m wb mb base gs0 N h0.k) (wA m wb mb base h0 gs0 N):=by
 have hsame:∀{w w':World} {k:KM},RowsAt w base m.gi m.gd m.gp k->(∀i,wX m wb mb i->w'.heap[i]?=w.heap[i]?)->RowsAt w' base m.gi m.gd m.gp k:=fun h hx=>qH (m:=m) h fun i hi=>hx i (hi.elim .inl fun h=>h.elim (fun h=>.inr (.inl h)) fun h=>.inr (.inr (.inl h)));have hwat:∀{w w':World} {n:Nat} {c:Bool} {gm:List (dh × aQ)},WAt w wb mb n c gm->(∀i,wX m wb mb i->w'.heap[i]?=w.heap[i]?)->WAt w' wb mb n c gm:=fun h hx=>h.same (hx _ (.inr (.inr (.inr (.inl rfl))))) (hx _ (.inr (.inr (.inr (.inr rfl)))));refine ⟨fun w w' r ⟨h1,c,gm,h2,h3⟩ _ hx=>⟨hsame h1 hx,c,gm,hwat h2 hx,h3⟩,fun w w' ⟨h1,gm,h2,h3⟩ _ hx=>⟨hsame h1 hx,gm,hwat h2 hx,h3⟩,?_,?_,?_,?_⟩
 ·rintro w r r' ⟨h1,c,gm,h2,h3⟩ e1 e2 e3 e4;refine ⟨by rw [e1];exact h1,c,gm,by rw [e2];exact h2,?_⟩;have ea:∀gs,eu r' gs=eu r gs:=fun gs=>by unfold eu;rw [e3,e4]
  unfold WJ at h3 |-;simp only [e2,ea];exact h3
 ·rintro w r sv kind va ⟨h1,c,gm,h2,h3⟩ hC hs hc hr hk0 hk2 hv;rw [hd.pd,hd.px];refine ⟨_,_,yA wb w,fun args u=>At args u,?_⟩;refine (C7 wb mb _ c gm r sv kind va w h2 (by have:=hc.few;omega) (hs w (Kp.refl _ w)) hr hne (fun u hu=>hs u (EL hu)) hv).mono ?_
  ·rintro e w' ⟨rfl,hl,hk⟩;have h:=sB r.h.mem r.h.mode r.h.sum r.h.mxr r.h.satp kind va ⟨hk0,hk2⟩ hr.h.v.mode;refine ⟨_,_,rfl,h.2,?_,⟨Bz hd h1 hk,?_⟩,EL hk⟩
   ·unfold aV;rw [if_pos rfl];exact h.1
   ·unfold kK at hl;have ln:N+3*(bf true pick r kind va).looks.length=N+3*r.looks.length+3:=by simp [bf];omega
    rw [ln];split at hl
    ·rename_i hh;simp only [Bool.and_eq_true] at hh;exact ⟨_,_,hl,WJ.look hc h3 hh.1 hh.2⟩
    ·rename_i hh;refine ⟨_,_,⟨hl.1,hl.2.mono (by omega)⟩,WJ.skip hc h3 ?_⟩;cases h1:onM r.h.mode r.h.satp
     ·exact .inl rfl
     ·cases h2:de va
      ·exact .inr rfl
      ·simp [h1,h2] at hh
 ·rintro w r cv f ⟨h1,c,gm,h2,h3⟩ hC hcv hc hr hv ha;rw [hd.pd,hd.px];refine ⟨_,_,wm wb w,fun args u=>yB args u,?_⟩;have hx:∀i,wX m wb mb i->i<w.heap.size:=by
   rintro i (rfl | rfl | rfl | rfl | rfl)
   ·exact (db h1.1).2.2
   ·exact (db h1.2.1).2.2
   ·exact (db h1.2.2.1).2.2
   ·exact hpl h2.1
   ·exact h2.2.lt
  refine (Au _ wb mb _ c gm cv f w h2 (.inr (.inr (.inr (.inr rfl)))) hx hcv hv).mono ?_;rintro e w' ⟨rfl,hl,hg⟩;have hk:Kp (fun i=>i=wb∨i=mb) w w':=Kp.of_gb hg (.inr rfl);exact ⟨rfl,⟨Bz hd h1 hk,c,_,hl,WJ.fence hc h3 f⟩,EL hk⟩
 ·rintro w ⟨h1,gm,h2,h3⟩ hC hh;rw [hd.pd,hd.px];refine ⟨_,.agg #[],(un wb w).trans (by simp [go_sem,Hz h2.1,JE]),fun args u=>rn args u,?_⟩;refine (xR pick w).mono fun e w' h=>⟨h.1,?_,Kp.of_below _ h.2⟩;have e:(bI true pick h0).h.k=h0.k:=by
   unfold bI fi;rw [if_neg (by simp)];rfl
  refine ⟨by rw [e];exact jE (m:=m) h1 h.2,false,gm,⟨ae h2.1 h.2 (hpl h2.1),h2.2.keep h.2⟩,fun _=>⟨rfl,h3⟩,fun hj=>by cases hj⟩
end
end Go.Proofs.YtkenjknmfhoppaaGreat
