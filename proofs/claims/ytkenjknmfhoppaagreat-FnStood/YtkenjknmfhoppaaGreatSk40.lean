import Derived.Test.YtkenjknmfhoppaaGreatSk39
namespace Go.Proofs.YtkenjknmfhoppaaGreat
open Go.RowKit
set_option linter.unusedVariables false
set_option maxHeartbeats 6400000
set_option maxRecDepth 20000
section
attribute [local go_sem ↓] Go.wp_at_zero Go.wp_at_succ
structure PlO (plain:Bool):Prop where
 t:PlC plain
 f:PlF plain
 e:plain=true∨Fo
def pE (w:World) (plain:Bool) (pick:Int) (X:RunM):Ending->World->Prop:=fun e w'=>(∃p' al' cl',e=.returned (.agg (aM p' al' cl' plain pick X))∧RunIn w' p' al' cl' X∧(∀q,some q∈aV p'->w.heap.size<=q.block)∧∀q,al'=some q->w.heap.size<=q.block)∧Bw w w'
theorem xr {w v2:World} {p':PtrM} {al':Option Addr} {cl':Nat} {plain:Bool} {pick:Int} {X:RunM} (hI:RunIn v2 p' al' cl' X) (hp:∀q,some q∈aV p'->w.heap.size+2<=q.block) (hl:∀q,al'=some q->w.heap.size+2<=q.block) (hn:Bw w v2) (L:List Value):
 pE w plain pick X (.returned (.agg (aM p' al' cl' plain pick X))) (v2.setCells (w.heap.size+1) 0 L):=by
 have g:=aH (w.heap.size+1) L 0 v2 v2 (aw v2 _);refine ⟨⟨p',al',cl',rfl,hI.gb g (fun q hq=>?_) (fun q hq=>?_),fun q hq=>?_,fun q hq=>?_⟩,aS (by omega) L 0 v2 hn⟩
 ·have:=hp q hq;omega
 ·have:=hl q hq;omega
 ·have:=hp q hq;omega
 ·have:=hl q hq;omega
theorem lY {t:TlbM} {p:Bool} (h:aR t p=true):0<t.es.length:=by
 obtain ⟨h1,h2,h3,h4⟩:=fI h;rcases h1 with h | h | h | h <;> rw [h] at h4 <;> omega
theorem Ct (p q:PtrM) (al:Option Addr) (cl:Nat) (plain:Bool) (pick:Int) (r:RunM) (h:HartM):iI (aM p al cl plain pick r) 0 (ak q h).toList=aM q al cl plain pick (bL r h):=by
 simp [iI,aM,ak,bL]
theorem zf {plain:Bool} (hO:PlO plain) (p:PtrM) (h:HartM) (pick:Int) (w:World) (hi:HartIn w p h) (hk:HOk h) (hpk:0<=pick∧pick<=255):
 Calls Tryz.prog 22 #[.agg (ak p h),.bool plain,VI pick] w (pE w plain pick (fQ plain pick h)):=by
 have HI:Hid (HartIn w p h):=hi;have HOK:Hid (HOk h):=hk;have hsz:=ic hk.v.size;have HCp0:Hid (∀u,HartIn u p h->Calls Tryz.prog 50 #[.agg (ak p h)] u fun e w'=>(∃pp:PtrM,e=.returned (.agg #[.slice pp.am h.mem.length pp.cm,.slice pp.ar h.regs.length pp.cr,VU h.pc,VI h.mode,.bool h.sum,.bool h.mxr,VU h.satp,VU h.tvec,VU h.epc,VI h.emode,VI h.cause,VU h.tval,VI h.k.i.sets,VI h.k.i.ways,.slice pp.a1 h.k.i.es.length pp.c1,VI h.k.d.sets,VI h.k.d.ways,.slice pp.a2 h.k.d.es.length pp.c2,VI h.k.p.sets,VI h.k.p.ways,.slice pp.a3 h.k.p.es.length pp.c3])∧HartIn w' pp h∧∀q,some q∈aV pp->u.heap.size<=q.block)∧Bw u w'):=fun u hu=>za p h u hu (by omega) (by omega) (by rw [hk.v.regs];omega);obtain ⟨X,hX⟩:∃X,fQ plain pick h=X:=⟨_,rfl⟩;have HX:Hid (fQ plain pick h=X):=hX;rw [hX];have hhs:=eI p h;have lI:((ak p h).toList.drop 12).take 3=[VI h.k.i.sets,VI h.k.i.ways,.slice p.a1 h.k.i.es.length p.c1]:=rfl;have lD:((ak p h).toList.drop 15).take 3=[VI h.k.d.sets,VI h.k.d.ways,.slice p.a2 h.k.d.es.length p.c2]:=rfl;have lP:((ak p h).toList.drop 18).take 3=[VI h.k.p.sets,VI h.k.p.ways,.slice p.a3 h.k.p.es.length p.c3]:=rfl;have d2:(ak p h)[2]?=some (VU h.pc):=rfl;have d3:(ak p h)[3]?=some (VI h.mode):=rfl;have d7:(ak p h)[7]?=some (VU h.tvec):=rfl;generalize ak p h=HA at HCp0 hhs lI lD lP d2 d3 d7 |-;clear hX hi hk;obtain ⟨hpk1,hpk2⟩:=hpk;obtain ⟨Q,hQ⟩:∃Q,bodyPost Tryz.prog Tryz.f22 (pE w plain pick X)=Q:=⟨_,rfl⟩;have HQ:Hid _:=hQ;have HQp:Hid (∀x (a:Act) d z w,Q (.panic x) (a.put d z) w->Q (.panic x) a w):=by
  show ∀x (a:Act) d z w,Q (.panic x) (a.put d z) w->Q (.panic x) a w;rw [<-HQ.out];exact fun _ _ d _ _ h=>by cases d <;> exact h
 go_enter Tryz.func22,Tryz.ntmps22;rw [hQ];clear hQ;go_upto_region 1 with fail;obtain ⟨v1,Ev1,F⟩:=ax2 w HA eH 43 61;rw [Ev1.out];clear Ev1;obtain ⟨h3,h6,l1,n1⟩:=F;have H3:Hid _:=h3;have H6:Hid _:=h6;clear h3 h6;have HLh:Hid _:=bf (P:=Tryz.prog) (T:=43) H3.out Tryz.underlying43 rfl (by rw [hhs];exact eM);go_wp2_with ((with_reducible refine ba ?_ HLh.out ?_);(exact rfl));refine (HCp0.out v1 (HI.out.keep n1)).mono ?_;rintro e v2 ⟨⟨pp,rfl,hI2,hP2⟩,n2⟩;have hv2:=n2.size;have a3:=cw v2 eH 61;have hR0:=bC pp none 0 plain pick (⟨h,0,0,[],false,fe⟩:RunM);have HR0o:Hid _:=dv pp none 0 plain pick (⟨h,0,0,[],false,fe⟩:RunM);have HS3:Hid _:=bq (P:=Tryz.prog) (T:=61) (V:=aM pp none 0 plain pick (⟨h,0,0,[],false,fe⟩:RunM)) a3.1 (by rw [hR0];exact dm) (by rw [hR0,aX]) HR0o.out;have HT3:Hid _:=aT (V:=aM pp none 0 plain pick (⟨h,0,0,[],false,fe⟩:RunM)) a3.1 (by rw [hR0,aX]);have n3:=aS (Nat.le_refl v2.heap.size) (aM pp none 0 plain pick (⟨h,0,0,[],false,fe⟩:RunM)).toList 0 _ a3.2.2;have s3:((v2.alloc (Obj.cells eH 61)).setCells v2.heap.size 0 (aM pp none 0 plain pick (⟨h,0,0,[],false,fe⟩:RunM)).toList).heap.size=v2.heap.size+1:=by rw [cV,a3.2.1]
 clear a3 HLh;go_upto_region 2 with ((with_reducible refine aL ?_ ?_ HS3.out ?_);(exact rfl);(exact rfl));have n13:=bst n1 (bst n2 n3);have hrb:v2.heap.size<((v2.alloc (Obj.cells eH 61)).setCells v2.heap.size 0 (aM pp none 0 plain pick (⟨h,0,0,[],false,fe⟩:RunM)).toList).heap.size:=by omega
 have H33:Hid _:=ag H3.out (bst n2 n3) (by omega);have H63:Hid _:=ag H6.out (bst n2 n3) (by omega);have HI3:Hid (HartIn ((v2.alloc (Obj.cells eH 61)).setCells v2.heap.size 0 (aM pp none 0 plain pick (⟨h,0,0,[],false,fe⟩:RunM)).toList) pp h):=hI2.keep n3;have HP3:Hid (∀q,some q∈aV pp->w.heap.size+2<=q.block∧q.block<v2.heap.size):=fun q hq=>⟨by have:=hP2 q hq;omega,hI2.low q hq⟩;generalize (v2.alloc (Obj.cells eH 61)).setCells v2.heap.size 0 (aM pp none 0 plain pick (⟨h,0,0,[],false,fe⟩:RunM)).toList=v3 at HT3 n13 hrb H33 H63 HI3 |-;generalize v2.heap.size=rb at HT3 hrb HP3 hv2 |-;have hrb2:w.heap.size+2<=rb:=by omega
 clear HS3 n3 n2 n1 s3 hI2 hP2 H3 H6 hv2;have HRI:Hid (RunIn v3 pp none 0 (⟨h,0,0,[],false,fe⟩:RunM)):=⟨HI3.out,⟨rfl,.inl rfl⟩,⟨nle,by decide⟩,⟨fun _=>⟨rfl,rfl⟩,fun q hq=>by cases hq⟩,Nat.zero_le _,fun q hq=>by cases hq⟩;have lI2:w.heap.size<v3.heap.size:=by omega
 have HHA:Hid _:=H33.out;simp only [Act.put];go_cut [19] from 14 to 18 (fun s wx=>∃bb,s=.bool bb∧Hid ((decide (128<=pick) && !plain)=bb)∧v3=wx)
 case first=>
  clear HT3 H33 H63 HRI HI3 HP3 n13 hrb lI2;by_cases hc:128<=pick <;> cases plain <;> (go_wp2_with fail;go_meet;case rel=>exact ⟨_,rfl,(by simp [hc]:(_:Bool)=_),rfl⟩)
 case rest=>
 obtain ⟨bb,rfl,HBB,rfl⟩:=hcut;go_upto_if 19 with fail;go_cut [] from 20 to 40 (fun wx=>∃PA:PtrM,Bw w wx∧Hid (wx.heap[rb]?=some (.cells (aM PA none 0 plain pick (cK plain pick h)) 61 (0,0)))∧Hid (wx.heap[w.heap.size]?=some (.cells HA 43 (0,0)))∧Hid (wx.heap[w.heap.size+1]?=some (.cells eH 61 (0,0)))∧rb<wx.heap.size∧Hid (∀q,some q∈aV PA->w.heap.size+2<=q.block∧q.block≠rb)∧Hid (RunIn wx PA none 0 (cK plain pick h)))
 case first=>
  by_cases hev:128<=pick∧plain=false
  ·obtain ⟨hev1,rfl⟩:=hev;have HEv:=hid (hO.e.resolve_left (by decide));have HWp:Hid (IntKind.i64.wrap (pick-128)=pick-128):=(IntKind.wrap_i64 _).trans (by omega);have HY:Hid (cK false pick h=bL (⟨h,0,0,[],false,fe⟩:RunM) (withK h (⟨be h.k.i (pick-128),be h.k.d (pick-128),be h.k.p (pick-128)⟩:KM))):=by
    show _=_;unfold cK fB;rw [if_pos ⟨hev1,rfl⟩];rfl
   have HKs:Hid (KAt v3 (.agg (kA p h.k)) h.k):=HI.out.ks.keep n13;obtain ⟨z1,z2,z3,z4,z5,z6,hz,tI,tD,tP⟩:=HKs.out;simp only [kA,Value.agg.injEq,Array.mk.injEq,List.cons.injEq,Value.slice.injEq,true_and,and_true] at hz;obtain ⟨⟨rfl,rfl⟩,⟨rfl,rfl⟩,rfl,rfl⟩:=hz;have hgk:=HOK.out.v.ks;simp only [bJ,Bool.and_eq_true] at hgk;have es1:=lY hgk.1.1;have es2:=lY hgk.1.2;have es3:=lY hgk.2;have HCi:Hid (∀u,Bw v3 u->Calls Tryz.prog 51 #[.agg #[VI h.k.i.sets,VI h.k.i.ways,.slice p.a1 h.k.i.es.length p.c1],VI (pick-128)] u fun e w'=>(∃x,e=.returned x∧TlbOwn u.heap.size w' x (be h.k.i (pick-128)))∧Bw u w'):=fun u hu=>HEv.out _ h.k.i (pick-128) u (tI.keep hu) es1 (by omega);have HCd:Hid (∀u,Bw v3 u->Calls Tryz.prog 51 #[.agg #[VI h.k.d.sets,VI h.k.d.ways,.slice p.a2 h.k.d.es.length p.c2],VI (pick-128)] u fun e w'=>(∃x,e=.returned x∧TlbOwn u.heap.size w' x (be h.k.d (pick-128)))∧Bw u w'):=fun u hu=>HEv.out _ h.k.d (pick-128) u (tD.keep hu) es2 (by omega);have HCp:Hid (∀u,Bw v3 u->Calls Tryz.prog 51 #[.agg #[VI h.k.p.sets,VI h.k.p.ways,.slice p.a3 h.k.p.es.length p.c3],VI (pick-128)] u fun e w'=>(∃x,e=.returned x∧TlbOwn u.heap.size w' x (be h.k.p (pick-128)))∧Bw u w'):=fun u hu=>HEv.out _ h.k.p (pick-128) u (tP.keep hu) es3 (by omega);have hDs:=bC pp none 0 false pick (⟨h,0,0,[],false,fe⟩:RunM);have HDk:Hid (∀q k,iI (aM pp none 0 false pick (⟨h,0,0,[],false,fe⟩:RunM)) 12 (kA q k).toList=aM (pK pp q.a1 q.c1 q.a2 q.c2 q.a3 q.c3) none 0 false pick (bL (⟨h,0,0,[],false,fe⟩:RunM) (withK (⟨h,0,0,[],false,fe⟩:RunM).h k))):=fun q k=>tw pp q none 0 false pick (⟨h,0,0,[],false,fe⟩:RunM) k;generalize aM pp none 0 false pick (⟨h,0,0,[],false,fe⟩:RunM)=D at HT3 hDs HDk;have HLi:Hid (∀u:World,u.heap[w.heap.size]?=some (.cells HA 43 (0,0))->(Instr.loadAt 39 (PT w.heap.size 12)).run Tryz.prog u=.ok (.agg #[VI h.k.i.sets,VI h.k.i.ways,.slice p.a1 h.k.i.es.length p.c1]) u):=fun u hu=>de (P:=Tryz.prog) hu Tryz.underlying39 rfl (o:=12) _ (by kernel_rfl) lI rfl;have HLd:Hid (∀u:World,u.heap[w.heap.size]?=some (.cells HA 43 (0,0))->(Instr.loadAt 39 (PT w.heap.size 15)).run Tryz.prog u=.ok (.agg #[VI h.k.d.sets,VI h.k.d.ways,.slice p.a2 h.k.d.es.length p.c2]) u):=fun u hu=>de (P:=Tryz.prog) hu Tryz.underlying39 rfl (o:=15) _ (by kernel_rfl) lD rfl;have HLp:Hid (∀u:World,u.heap[w.heap.size]?=some (.cells HA 43 (0,0))->(Instr.loadAt 39 (PT w.heap.size 18)).run Tryz.prog u=.ok (.agg #[VI h.k.p.sets,VI h.k.p.ways,.slice p.a3 h.k.p.es.length p.c3]) u):=fun u hu=>de (P:=Tryz.prog) hu Tryz.underlying39 rfl (o:=18) _ (by kernel_rfl) lP rfl;clear tI tD tP lI lD lP;obtain rfl:bb=true:=by rw [<-HBB.out];simp [hev1]
   go_upto_region 3 with fail;have hF:v3.drew.heap[w.heap.size]?=some (.cells HA 43 (0,0))∧v3.drew.heap[rb]?=some (.cells D 61 (0,0)):=⟨H33.out,HT3.out⟩;refine aN (fun u=>u.heap[w.heap.size]?=some (.cells HA 43 (0,0))∧u.heap[rb]?=some (.cells D 61 (0,0))) 21 ?_;refine ax 0 20 (PT w.heap.size 12) rfl hF ?_ (hQ:=hqp HQp);refine ax 1 21 (PT w.heap.size 12) rfl hF ?_ (hQ:=hqp HQp)
   go_frame
   refine ax 2 22 (.agg #[VI h.k.i.sets,VI h.k.i.ways,.slice p.a1 h.k.i.es.length p.c1]) rfl hF ?_ (hQ:=hqp HQp) (hy:=fun u hu=>aU rfl (HLi.out u hu.1));refine ax 3 23 (VI pick) rfl hF ?_ (hQ:=hqp HQp)
   go_frame
   refine ax 4 24 (VI (pick-128)) rfl hF ?_ (hQ:=hqp HQp) (hy:=fun u hu=>(by have h1:=HWp.out;go_simp));refine ax 6 26 (PT w.heap.size 12) rfl hF ?_ (hQ:=hqp HQp);refine ax 7 27 (PT w.heap.size 15) rfl hF ?_ (hQ:=hqp HQp)
   go_frame
   refine ax 8 28 (.agg #[VI h.k.d.sets,VI h.k.d.ways,.slice p.a2 h.k.d.es.length p.c2]) rfl hF ?_ (hQ:=hqp HQp) (hy:=fun u hu=>aU rfl (HLd.out u hu.1));refine ax 9 29 (VI pick) rfl hF ?_ (hQ:=hqp HQp)
   go_frame
   refine ax 10 30 (VI (pick-128)) rfl hF ?_ (hQ:=hqp HQp) (hy:=fun u hu=>(by have h1:=HWp.out;go_simp));refine ax 12 32 (PT w.heap.size 12) rfl hF ?_ (hQ:=hqp HQp);refine ax 13 33 (PT w.heap.size 18) rfl hF ?_ (hQ:=hqp HQp)
   go_frame
   refine ax 14 34 (.agg #[VI h.k.p.sets,VI h.k.p.ways,.slice p.a3 h.k.p.es.length p.c3]) rfl hF ?_ (hQ:=hqp HQp) (hy:=fun u hu=>aU rfl (HLp.out u hu.1));refine ax 15 35 (VI pick) rfl hF ?_ (hQ:=hqp HQp)
   go_frame
   refine ax 16 36 (VI (pick-128)) rfl hF ?_ (hQ:=hqp HQp) (hy:=fun u hu=>(by have h1:=HWp.out;go_simp))
   go_frame
   refine dN 5 25 rfl (f:=51) (args:=#[.agg #[VI h.k.i.sets,VI h.k.i.ways,.slice p.a1 h.k.i.es.length p.c1],VI (pick-128)]) ?_;refine (HCi.out v3.drew ((brf).drew)).mono ?_;rintro e u1 ⟨⟨x1,rfl,hx1⟩,m1'⟩;have m1:Bw v3 u1:=bst ((brf).drew) m1';obtain ⟨g1,cap1,rfl,o1⟩:=hx1;refine ⟨_,rfl,fun _=>⟨ag H33.out m1 lI2,ag HT3.out m1 hrb⟩,?_⟩
   go_frame
   refine dN 11 31 rfl (f:=51) (args:=#[.agg #[VI h.k.d.sets,VI h.k.d.ways,.slice p.a2 h.k.d.es.length p.c2],VI (pick-128)]) ?_;refine (HCd.out u1 (m1)).mono ?_;rintro e u2 ⟨⟨x2,rfl,hx2⟩,m2'⟩;have m2:Bw v3 u2:=bst (m1) m2';obtain ⟨g2,cap2,rfl,o2⟩:=hx2;refine ⟨_,rfl,fun _=>⟨ag H33.out m2 lI2,ag HT3.out m2 hrb⟩,?_⟩
   go_frame
   refine dN 17 37 rfl (f:=51) (args:=#[.agg #[VI h.k.p.sets,VI h.k.p.ways,.slice p.a3 h.k.p.es.length p.c3],VI (pick-128)]) ?_;refine (HCp.out u2 (m2)).mono ?_;rintro e u3 ⟨⟨x3,rfl,hx3⟩,m3'⟩;have m3:Bw v3 u3:=bst (m2) m3';obtain ⟨g3,cap3,rfl,o3⟩:=hx3;refine ⟨_,rfl,fun _=>⟨ag H33.out m3 lI2,ag HT3.out m3 hrb⟩,?_⟩
   go_frame
   have KR:KRows v3.heap.size u3 (pK pp (some (AD g1 0)) cap1 (some (AD g2 0)) cap2 (some (AD g3 0)) cap3) (⟨be h.k.i (pick-128),be h.k.d (pick-128),be h.k.p (pick-128)⟩:KM):=⟨aJ (aj (aj o1 m2') m3') nle,aJ (aj o2 m3') m1.size,aJ o3 m2.size⟩;have J3:=ag HT3.out m3 hrb;have HSk:Hid _:=eJ (P:=Tryz.prog) (T:=41) J3 (o:=12) (V:=kA (pK pp (some (AD g1 0)) cap1 (some (AD g2 0)) cap2 (some (AD g3 0)) cap3) (⟨be h.k.i (pick-128),be h.k.d (pick-128),be h.k.p (pick-128)⟩:KM)) (by rw [show (kA (pK pp (some (AD g1 0)) cap1 (some (AD g2 0)) cap2 (some (AD g3 0)) cap3) (⟨be h.k.i (pick-128),be h.k.d (pick-128),be h.k.p (pick-128)⟩:KM)).size=9 from rfl];exact kI) (by rw [show (kA (pK pp (some (AD g1 0)) cap1 (some (AD g2 0)) cap2 (some (AD g3 0)) cap3) (⟨be h.k.i (pick-128),be h.k.d (pick-128),be h.k.p (pick-128)⟩:KM)).size=9 from rfl];omega) (wM _ _);have HJ:Hid _:=cT rb (kA (pK pp (some (AD g1 0)) cap1 (some (AD g2 0)) cap2 (some (AD g3 0)) cap3) (⟨be h.k.i (pick-128),be h.k.d (pick-128),be h.k.p (pick-128)⟩:KM)).toList 12 u3 D _ _ J3 (by show 12+9<=_;omega);refine fw 18 38 (.agg (kA (pK pp (some (AD g1 0)) cap1 (some (AD g2 0)) cap2 (some (AD g3 0)) cap3) (⟨be h.k.i (pick-128),be h.k.d (pick-128),be h.k.p (pick-128)⟩:KM))) rfl (.inr ⟨ag H33.out m3 lI2,J3⟩) ?_ (hQ:=hqp HQp)
   go_frame
   refine fw 19 39 (PT rb 0) rfl (.inr ⟨ag H33.out m3 lI2,J3⟩) ?_ (hQ:=hqp HQp)
   go_frame
   refine fw 20 40 (PT rb 12) rfl (.inr ⟨ag H33.out m3 lI2,J3⟩) ?_ (hQ:=hqp HQp)
   go_frame
   refine dO 21 40 38 rfl HSk.out ?_;refine dt ?_;rw [HDk.out] at HJ;have g4:=aH rb (kA (pK pp (some (AD g1 0)) cap1 (some (AD g2 0)) cap2 (some (AD g3 0)) cap3) (⟨be h.k.i (pick-128),be h.k.d (pick-128),be h.k.p (pick-128)⟩:KM)).toList 12 u3 u3 (aw u3 _);have nA:=aS (show w.heap.size<=rb by omega) (kA (pK pp (some (AD g1 0)) cap1 (some (AD g2 0)) cap2 (some (AD g3 0)) cap3) (⟨be h.k.i (pick-128),be h.k.d (pick-128),be h.k.p (pick-128)⟩:KM)).toList 12 u3 (bst n13 m3);have KR4:=KR.gb g4 hrb;have HRb:Hid ((u3.setCells rb 12 (kA (pK pp (some (AD g1 0)) cap1 (some (AD g2 0)) cap2 (some (AD g3 0)) cap3) (⟨be h.k.i (pick-128),be h.k.d (pick-128),be h.k.p (pick-128)⟩:KM)).toList).heap[rb]?=some (.cells (aM (pK pp (some (AD g1 0)) cap1 (some (AD g2 0)) cap2 (some (AD g3 0)) cap3) none 0 false pick (cK false pick h)) 61 (0,0))):=by rw [HY.out];exact HJ.out
   have HHb:Hid _:=aB (ag H33.out m3 lI2) g4 (show w.heap.size≠rb by omega);have HKb:Hid _:=aB (ag H63.out m3 (by omega)) g4 (show w.heap.size+1≠rb by omega);have hsA:rb<(u3.setCells rb 12 (kA (pK pp (some (AD g1 0)) cap1 (some (AD g2 0)) cap2 (some (AD g3 0)) cap3) (⟨be h.k.i (pick-128),be h.k.d (pick-128),be h.k.p (pick-128)⟩:KM)).toList).heap.size:=ltl hrb (Nat.le_trans m3.size g4.size);have HPA:Hid (∀q,some q∈aV (pK pp (some (AD g1 0)) cap1 (some (AD g2 0)) cap2 (some (AD g3 0)) cap3)->w.heap.size+2<=q.block∧q.block≠rb):=fun q hq=>by
    simp only [aV,pK,List.mem_cons,List.not_mem_nil,or_false] at hq;rcases hq with hq | hq | hq | hq | hq
    ·have:=HP3.out q (by simp [aV,hq]);omega
    ·have:=HP3.out q (by simp [aV,hq]);omega
    ·have:=(KR.ptrs q (by simp [pK,hq])).1;omega
    ·have:=(KR.ptrs q (by simp [pK,hq])).1;omega
    ·have:=(KR.ptrs q (by simp [pK,hq])).1;omega
   have HIA:Hid (RunIn (u3.setCells rb 12 (kA (pK pp (some (AD g1 0)) cap1 (some (AD g2 0)) cap2 (some (AD g3 0)) cap3) (⟨be h.k.i (pick-128),be h.k.d (pick-128),be h.k.p (pick-128)⟩:KM)).toList) (pK pp (some (AD g1 0)) cap1 (some (AD g2 0)) cap2 (some (AD g3 0)) cap3) none 0 (cK false pick h)):=by
    rw [HY.out];have k:=(HRI.out.keep m3).gb g4 (fun q hq=>by have:=HP3.out q hq;omega) (fun q hq=>by cases hq);refine ⟨⟨k.h.mem,k.h.memc,k.h.regs,k.h.regc,k.h.rega,KR4.at ⟨kj HOK.out.ks.1,kj HOK.out.ks.2.1,kj HOK.out.ks.2.2⟩,fun q hq=>?_⟩,k.looks,k.lookc,k.looka,k.lookl,k.low⟩;simp only [aV,pK,List.mem_cons,List.not_mem_nil,or_false] at hq;rcases hq with hq | hq | hq | hq | hq
    ·exact k.h.low q (by simp [aV,hq])
    ·exact k.h.low q (by simp [aV,hq])
    ·exact (KR4.ptrs q (by simp [pK,hq])).2
    ·exact (KR4.ptrs q (by simp [pK,hq])).2
    ·exact (KR4.ptrs q (by simp [pK,hq])).2
   go_wp2;go_meet
   case rel=>exact ⟨_,nA,HRb.out,HHb.out,HKb.out,hsA,HPA.out,HIA.out⟩
  ·have HY:Hid (cK plain pick h=(⟨h,0,0,[],false,fe⟩:RunM)):=by
    show _=_;unfold cK fB;rw [if_neg hev];rfl
   have HRb:Hid (v3.heap[rb]?=some (.cells (aM pp none 0 plain pick (cK plain pick h)) 61 (0,0))):=by rw [HY.out];exact HT3.out
   have HIA:Hid (RunIn v3 pp none 0 (cK plain pick h)):=by rw [HY.out];exact HRI.out
   have HPA:Hid (∀q,some q∈aV pp->w.heap.size+2<=q.block∧q.block≠rb):=fun q hq=>by have:=HP3.out q hq;omega
   have hcond:(decide (128<=pick) && !plain)=false:=by
    cases plain
    ·have:¬128<=pick:=fun h=>hev ⟨h,rfl⟩;simp [this]
    ·simp
   obtain rfl:bb=false:=by rw [<-HBB.out];exact hcond
   go_wp2;go_meet
   case rel=>exact ⟨_,n13,HRb.out,H33.out,H63.out,hrb,HPA.out,HIA.out⟩
 case rest=>
 clear HT3 H33 H63 HRI HI3 HP3 n13 hrb lI2 HHA;obtain ⟨PA,nA,HRb,HHb,HKb,hsA,HPA,HIA⟩:=hcut;rename World=>vA;have HZk:Hid (ROk (eQ plain pick (cK plain pick h))):=wS plain ⟨hpk1,hpk2⟩ (mK plain pick HOK.out);have HBd:Hid (∀u,RunIn u PA none 0 (cK plain pick h)->Calls Tryz.prog 52 #[.agg (aM PA none 0 plain pick (cK plain pick h))] u (fH u PA none 0 plain pick (eQ plain pick (cK plain pick h)))):=fun u hu=>zN hO.t hO.f PA none 0 pick (cK plain pick h) u hu (mK plain pick HOK.out) ⟨hpk1,hpk2⟩ rfl (by show 0<=5;omega);have hRa:=bC PA none 0 plain pick (cK plain pick h);have HXz:Hid (X=pU h (eQ plain pick (cK plain pick h))):=by show _=_;rw [<-HX.out];rfl
 generalize (eQ plain pick (cK plain pick h))=Z at HZk HBd HXz;generalize aM PA none 0 plain pick (cK plain pick h)=D0 at HRb HBd hRa;generalize (cK plain pick h)=Y0 at HBd HIA;have HLr:Hid _:=bf (P:=Tryz.prog) (T:=61) HRb.out Tryz.underlying61 rfl (by rw [hRa];exact dm);go_upto_region 4 with fail;go_wp2_with ((with_reducible refine ba ?_ HLr.out ?_);(exact rfl));refine (HBd.out vA HIA.out).mono ?_;rintro e vB ⟨⟨pB,alB,clB,rfl,hIB,hFB,hLB⟩,nB⟩;have hR1:=bC pB alB clB plain pick Z;have HR1o:Hid _:=dv pB alB clB plain pick Z;have e23:(aM pB alB clB plain pick Z)[23]?=some (VI Z.cause):=rfl;have e24:(aM pB alB clB plain pick Z)[24]?=some (VU Z.tval):=rfl;have eK:((aM pB alB clB plain pick Z).toList.drop 12).take 9=(kA pB Z.h.k).toList:=rfl;have HEh:Hid (∀q g,iI (aM pB alB clB plain pick Z) 0 (ak q g).toList=aM q alB clB plain pick (bL Z g)):=fun q g=>Ct pB q alB clB plain pick Z g;have hPB:∀q,some q∈aV pB->w.heap.size+2<=q.block∧q.block≠rb:=fun q hq=>by
  rcases hFB q hq with hh | hh
  ·exact HPA.out q hh
  ·have h':vA.heap.size<=q.block:=hh;omega
 have hLB':∀q,alB=some q->w.heap.size+2<=q.block∧q.block≠rb:=fun q hq=>by
  rcases hLB q hq with hh | hh
  ·cases hh
  ·have h':vA.heap.size<=q.block:=hh;omega
 have HPB:Hid _:=hPB;have HLB:Hid _:=hLB';have J0:=ag HRb.out nB hsA;have HEn:Hid (∀v2:World,RunIn v2 pB alB clB Z->Bw w v2->pE w plain pick Z (.returned (.agg (aM pB alB clB plain pick Z))) (v2.setCells (w.heap.size+1) 0 (aM pB alB clB plain pick Z).toList)):=fun v2 hI hn=>xr hI (fun q hq=>(hPB q hq).1) (fun q hq=>(hLB' q hq).1) hn _;obtain ⟨E,hE⟩:∃E,aM pB alB clB plain pick Z=E:=⟨_,rfl⟩;rw [hE] at hR1 HR1o e23 e24 eK HEh HEn |-;clear hE hFB hLB;have HSa:Hid _:=bq (P:=Tryz.prog) (T:=61) (V:=E) J0 (by rw [hR1];exact dm) (by rw [hR1,hRa]) HR1o.out;have HC3:Hid _:=aT (V:=E) J0 (by rw [hR1,hRa]);have gC:=aH rb E.toList 0 vB vB (aw vB _);have nC:=aS (show w.heap.size<=rb by omega) E.toList 0 vB (bst nA nB);have HCh:Hid _:=aB (ag HHb.out nB (by omega)) gC (show w.heap.size≠rb by omega);have HCk:Hid _:=aB (ag HKb.out nB (by omega)) gC (show w.heap.size+1≠rb by omega);have HIC:Hid (RunIn (vB.setCells rb 0 E.toList) pB alB clB Z):=hIB.gb gC (fun q hq=>(hPB q hq).2) (fun q hq=>(hLB' q hq).2);have hsC:rb<(vB.setCells rb 0 E.toList).heap.size:=by rw [cV];exact ltl hsA nB.size
 go_upto_region 5 with ((with_reducible refine aL ?_ ?_ HSa.out ?_);(exact rfl);(exact rfl));generalize vB.setCells rb 0 E.toList=vC at HC3 nC HCh HCk HIC hsC |-;clear HSa gC nA nB HRb HHb HKb HIA HBd HLr J0 hIB hPB hLB' HPA hsA;have c23:=ab HC3.out 23 e23;by_cases hz0:Z.cause=0
 ·have HXe:Hid (X=Z):=by show _=_;rw [HXz.out,pU,if_pos hz0]
  rw [hz0] at c23;have HLd:Hid _:=bf (P:=Tryz.prog) (T:=61) HC3.out Tryz.underlying61 rfl (by rw [hR1];exact dm);have HSr:Hid _:=bq (P:=Tryz.prog) (T:=61) (V:=E) HCk.out (by rw [hR1];exact dm) (by rw [hR1,aX]) HR1o.out;have e1:=aT (V:=E) HCk.out (by rw [hR1,aX]);go_upto_region 6 with fail;go_wp2_with (first
   | ((with_reducible refine ba ?_ HLd.out ?_);(exact rfl))
   | ((with_reducible refine aL ?_ ?_ HSr.out ?_);(exact rfl);(exact rfl)))
  rw [<-HQ.out];refine dx (b:=w.heap.size+1) Tryz.results22 rfl (bw (P:=Tryz.prog) e1 Tryz.underlying61 rfl (by rw [hR1];exact dm)) rfl ?_;rw [HXe.out];exact HEn.out vC HIC.out nC
 ·have HXe:Hid (X=bL Z (dZ h Z)):=by show _=_;rw [HXz.out,pU,if_neg hz0]
  have HLh:Hid _:=bf (P:=Tryz.prog) (T:=43) HCh.out Tryz.underlying43 rfl (by rw [hhs];exact eM);obtain ⟨zc,hzc⟩:∃zc,Z.cause=zc:=⟨_,rfl⟩;have HZc:Hid (Z.cause=zc):=hzc;rw [hzc] at c23 e23 hz0;clear hzc;go_upto_region 7 with fail;go_wp2_with ((with_reducible refine ba ?_ HLh.out ?_);(exact rfl));refine (HCp0.out vC (HI.out.keep nC)).mono ?_;rintro e vD ⟨⟨pq,rfl,hI2,hP2⟩,nD⟩;have a5:=cw vD fN 43;have hH0:=eI pq h;have HH0o:Hid _:=fT pq h;have HS5:Hid _:=bq (P:=Tryz.prog) (T:=43) (V:=ak pq h) a5.1 (by rw [hH0];exact eM) (by rw [hH0,eY]) HH0o.out;have HT5:Hid _:=aT (V:=ak pq h) a5.1 (by rw [hH0,eY]);have n5:=aS (Nat.le_refl vD.heap.size) (ak pq h).toList 0 _ a5.2.2;have s5:((vD.alloc (Obj.cells fN 43)).setCells vD.heap.size 0 (ak pq h).toList).heap.size=vD.heap.size+1:=by rw [cV,a5.2.1]
  have hob:vC.heap.size<=vD.heap.size:=nD.size;clear a5 HLh;go_upto_region 8 with ((with_reducible refine aL ?_ ?_ HS5.out ?_);(exact rfl);(exact rfl));have nCE:=bst nD n5;have HE3:Hid _:=ag HC3.out nCE hsC;have HEh2:Hid _:=ag HCh.out nCE (by omega);have HEk:Hid _:=ag HCk.out nCE (by omega);have HIE:Hid _:=HIC.out.keep nCE;have HHE:Hid (HartIn ((vD.alloc (Obj.cells fN 43)).setCells vD.heap.size 0 (ak pq h).toList) pq h):=hI2.keep n5;have nE:=bst nC nCE;have HPq:Hid (∀q,some q∈aV pq->vC.heap.size<=q.block∧q.block<vD.heap.size):=fun q hq=>⟨hP2 q hq,hI2.low q hq⟩;have HPb:Hid (∀q,some q∈aV pB->q.block<vC.heap.size):=HIC.out.h.low;have HLb:Hid (∀q,alB=some q->q.block<vC.heap.size):=HIC.out.low;generalize (vD.alloc (Obj.cells fN 43)).setCells vD.heap.size 0 (ak pq h).toList=vE at HT5 s5 HE3 HEh2 HEk HIE HHE nE |-;generalize vD.heap.size=ob at HT5 s5 hob HPq |-;clear HS5 n5 nD nCE hI2 hP2 HC3 HCh HCk HIC nC;have hobE:ob<vE.heap.size:=by omega
  have hob1:ob≠w.heap.size:=by omega
  have hob2:ob≠rb:=by omega
  have hrbE:rb<vE.heap.size:=by omega
  have hwE:w.heap.size<vE.heap.size:=by omega
  have hkz:(kA pB Z.h.k).size=9:=rfl;have HLk:Hid _:=de (P:=Tryz.prog) (T:=41) HE3.out Tryz.underlying41 rfl (o:=12) (kA pB Z.h.k).toList kI eK (by rw [Array.length_toList];rfl);simp only [Array.toArray_toList] at HLk;have HSk:Hid _:=eJ (P:=Tryz.prog) (T:=41) HT5.out (o:=12) (V:=kA pB Z.h.k) (by rw [hkz];exact kI) (by rw [hkz,hH0];omega) (wM _ _);have HJ:Hid _:=cT ob (kA pB Z.h.k).toList 12 vE _ _ _ HT5.out (by rw [hH0];show 12+9<=21;omega);rw [ui] at HJ;have g6:=aH ob (kA pB Z.h.k).toList 12 vE vE (aw vE _);have n6:=aS (show w.heap.size<=ob by omega) (kA pB Z.h.k).toList 12 vE nE;have HK3:Hid _:=aB HE3.out g6 (Ne.symm hob2);have HKh:Hid _:=aB HEh2.out g6 (Ne.symm hob1);have HKk:Hid _:=aB HEk.out g6 (show w.heap.size+1≠ob by omega);have HIK:Hid _:=HIE.out.gb g6 (fun q hq=>by have:=HPb.out q hq;omega) (fun q hq=>by have:=HLb.out q hq;omega);have HHK:Hid _:=HHE.out.gb g6 (fun q hq=>by have:=HPq.out q hq;omega);have s6:(vE.setCells ob 12 (kA pB Z.h.k).toList).heap.size=vE.heap.size:=by rw [cV]
  generalize kA pB Z.h.k=KB at HLk HSk HJ g6 n6 HK3 HKh HKk HIK HHK s6;go_upto_region 9 with (first
   | ((with_reducible refine ba ?_ HLk.out ?_);(exact rfl))
   | ((with_reducible refine aL ?_ ?_ HSk.out ?_);(exact rfl);(exact rfl)))
  generalize vE.setCells ob 12 KB.toList=vF at HJ n6 HK3 HKh HKk HIK HHK s6 |-;clear HLk HSk g6 HT5 HE3 HEh2 HEk HIE HHE nE c23;have hobF:ob<vF.heap.size:=by omega
  have hrbF:rb<vF.heap.size:=by omega
  have hwF:w.heap.size<vF.heap.size:=by omega
  have c23:=ab HK3.out 23 e23;have c24:=ab HK3.out 24 e24;have k2:=ab HKh.out 2 d2;have k3:=ab HKh.out 3 d3;have k7:=ab HKh.out 7 d7;have o8:=ab HJ.out 8 (show (ak (pK pq pB.a1 pB.c1 pB.a2 pB.c2 pB.a3 pB.c3) (withK h Z.h.k))[8]?=some _ from rfl);have o9:=ab HJ.out 9 (show (ak (pK pq pB.a1 pB.c1 pB.a2 pB.c2 pB.a3 pB.c3) (withK h Z.h.k))[9]?=some _ from rfl);have o10:=ab HJ.out 10 (show (ak (pK pq pB.a1 pB.c1 pB.a2 pB.c2 pB.a3 pB.c3) (withK h Z.h.k))[10]?=some _ from rfl);have o11:=ab HJ.out 11 (show (ak (pK pq pB.a1 pB.c1 pB.a2 pB.c2 pB.a3 pB.c3) (withK h Z.h.k))[11]?=some _ from rfl);have o3:=ab HJ.out 3 (show (ak (pK pq pB.a1 pB.c1 pB.a2 pB.c2 pB.a3 pB.c3) (withK h Z.h.k))[3]?=some _ from rfl);have o2:=ab HJ.out 2 (show (ak (pK pq pB.a1 pB.c1 pB.a2 pB.c2 pB.a3 pB.c3) (withK h Z.h.k))[2]?=some _ from rfl);have w8:=az HJ.out 8;have w9:=az HJ.out 9;have w10:=az HJ.out 10;have w11:=az HJ.out 11;have w3:=az HJ.out 3;have w2:=az HJ.out 2;obtain ⟨zt,hzt⟩:∃zt,Z.tval=zt:=⟨_,rfl⟩;have HZt:Hid (Z.tval=zt):=hzt;rw [hzt] at c24;clear hzt;go_upto_region 15 with fail;have HB6:Hid (((((((vF.setCell (AD ob 8) (VU h.pc)).setCell (AD ob 9) (VI h.mode)).setCell (AD ob 10) (VI zc)).setCell (AD ob 11) (VU zt)).setCell (AD ob 3) (VI 2)).setCell (AD ob 2) (VU h.tvec)).heap[ob]?=some (.cells (ak (pK pq pB.a1 pB.c1 pB.a2 pB.c2 pB.a3 pB.c3) (dZ h Z)) 43 (0,0))):=by
   rw [<-HZc.out,<-HZt.out];exact co (co (co (co (co (co HJ.out 8 _) 9 _) 10 _) 11 _) 3 _) 2 _
  have g7:=aq (aq (aq (aq (aq (aq (aw vF (some ob)) 8 (VU h.pc)) 9 (VI h.mode)) 10 (VI zc)) 11 (VU zt)) 3 (VI 2)) 2 (VU h.tvec);have hwo:w.heap.size<=ob:=by omega
  have n7:=cU (cU (cU (cU (cU (cU n6 hwo 8 (VU h.pc)) hwo 9 (VI h.mode)) hwo 10 (VI zc)) hwo 11 (VU zt)) hwo 3 (VI 2)) hwo 2 (VU h.tvec);clear c23 c24 k2 k3 k7 o8 o9 o10 o11 o3 o2 w8 w9 w10 w11 w3 w2;generalize ((((((vF.setCell (AD ob 8) (VU h.pc)).setCell (AD ob 9) (VI h.mode)).setCell (AD ob 10) (VI zc)).setCell (AD ob 11) (VU zt)).setCell (AD ob 3) (VI 2)).setCell (AD ob 2) (VU h.tvec))=v7 at HB6 g7 n7 |-;have HM3:Hid _:=aB HK3.out g7 (Ne.symm hob2);have HMk:Hid _:=aB HKk.out g7 (show w.heap.size+1≠ob by omega);have HIM:Hid _:=HIK.out.gb g7 (fun q hq=>by have:=HPb.out q hq;omega) (fun q hq=>by have:=HLb.out q hq;omega);have HHM:Hid _:=HHK.out.gb g7 (fun q hq=>by have:=HPq.out q hq;omega);clear HJ HK3 HKh HKk HIK HHK n6 g7;have hH7:=eI (pK pq pB.a1 pB.c1 pB.a2 pB.c2 pB.a3 pB.c3) (dZ h Z);have HL7:Hid _:=bf (P:=Tryz.prog) (T:=43) HB6.out Tryz.underlying43 rfl (by rw [hH7];exact eM);have HS7:Hid _:=eJ (P:=Tryz.prog) (T:=43) HM3.out (o:=0) (V:=ak (pK pq pB.a1 pB.c1 pB.a2 pB.c2 pB.a3 pB.c3) (dZ h Z)) (by rw [hH7];exact eM) (by rw [hH7,hR1];omega) (fT _ _);have HJ8:Hid _:=cT rb (ak (pK pq pB.a1 pB.c1 pB.a2 pB.c2 pB.a3 pB.c3) (dZ h Z)).toList 0 v7 _ _ _ HM3.out (by rw [Array.length_toList,hH7,hR1];omega);rw [HEh.out] at HJ8;have g8:=aH rb (ak (pK pq pB.a1 pB.c1 pB.a2 pB.c2 pB.a3 pB.c3) (dZ h Z)).toList 0 v7 v7 (aw v7 _);have n8:=aS (show w.heap.size<=rb by omega) (ak (pK pq pB.a1 pB.c1 pB.a2 pB.c2 pB.a3 pB.c3) (dZ h Z)).toList 0 v7 n7;have HNk:Hid _:=aB HMk.out g8 (show w.heap.size+1≠rb by omega);have hQ2:∀q,some q∈aV (pK pq pB.a1 pB.c1 pB.a2 pB.c2 pB.a3 pB.c3)->w.heap.size+2<=q.block∧q.block≠rb:=fun q hq=>by
   simp only [aV,pK,List.mem_cons,List.not_mem_nil,or_false] at hq;rcases hq with hq | hq | hq | hq | hq
   ·have:=HPq.out q (by simp [aV,hq]);omega
   ·have:=HPq.out q (by simp [aV,hq]);omega
   ·exact HPB.out q (by simp [aV,hq])
   ·exact HPB.out q (by simp [aV,hq])
   ·exact HPB.out q (by simp [aV,hq])
  have kr:=HIM.out.gb g8 (fun q hq=>(HPB.out q hq).2) (fun q hq=>(HLB.out q hq).2);have kh:=HHM.out.gb g8 (fun q hq=>by have:=HPq.out q hq;omega);have hIf:RunIn (v7.setCells rb 0 (ak (pK pq pB.a1 pB.c1 pB.a2 pB.c2 pB.a3 pB.c3) (dZ h Z)).toList) (pK pq pB.a1 pB.c1 pB.a2 pB.c2 pB.a3 pB.c3) alB clB (bL Z (dZ h Z)):=by
   refine ⟨⟨kh.mem,kh.memc,kh.regs,kh.regc,kh.rega,kr.h.ks,fun q hq=>?_⟩,kr.looks,kr.lookc,kr.looka,kr.lookl,kr.low⟩;simp only [aV,pK,List.mem_cons,List.not_mem_nil,or_false] at hq;rcases hq with hq | hq | hq | hq | hq
   ·exact kh.low q (by simp [aV,hq])
   ·exact kh.low q (by simp [aV,hq])
   ·exact kr.h.low q (by simp [aV,hq])
   ·exact kr.h.low q (by simp [aV,hq])
   ·exact kr.h.low q (by simp [aV,hq])
  have HFn:Hid _:=xr (plain:=plain) (pick:=pick) hIf (fun q hq=>(hQ2 q hq).1) (fun q hq=>(HLB.out q hq).1) n8 (aM (pK pq pB.a1 pB.c1 pB.a2 pB.c2 pB.a3 pB.c3) alB clB plain pick (bL Z (dZ h Z))).toList;have hR2:=bC (pK pq pB.a1 pB.c1 pB.a2 pB.c2 pB.a3 pB.c3) alB clB plain pick (bL Z (dZ h Z));have HR2o:Hid _:=dv (pK pq pB.a1 pB.c1 pB.a2 pB.c2 pB.a3 pB.c3) alB clB plain pick (bL Z (dZ h Z));clear kr kh hIf g8 hQ2 n7;generalize ak (pK pq pB.a1 pB.c1 pB.a2 pB.c2 pB.a3 pB.c3) (dZ h Z)=HT at HL7 HS7 HJ8 n8 HNk HFn hH7;generalize aM (pK pq pB.a1 pB.c1 pB.a2 pB.c2 pB.a3 pB.c3) alB clB plain pick (bL Z (dZ h Z))=E2 at HJ8 HFn hR2 HR2o;go_upto_region 16 with (first
   | ((with_reducible refine ba ?_ HL7.out ?_);(exact rfl))
   | ((with_reducible refine aL ?_ ?_ HS7.out ?_);(exact rfl);(exact rfl)))
  generalize v7.setCells rb 0 HT.toList=v8 at HJ8 n8 HNk HFn |-;have HLd:Hid _:=bf (P:=Tryz.prog) (T:=61) HJ8.out Tryz.underlying61 rfl (by rw [hR2];exact dm);have HSr:Hid _:=bq (P:=Tryz.prog) (T:=61) (V:=E2) HNk.out (by rw [hR2];exact dm) (by rw [hR2,aX]) HR2o.out;have e1:=aT (V:=E2) HNk.out (by rw [hR2,aX]);go_wp2_with (first
   | ((with_reducible refine ba ?_ HLd.out ?_);(exact rfl))
   | ((with_reducible refine aL ?_ ?_ HSr.out ?_);(exact rfl);(exact rfl)))
  rw [<-HQ.out];refine dx (b:=w.heap.size+1) Tryz.results22 rfl (bw (P:=Tryz.prog) e1 Tryz.underlying61 rfl (by rw [hR2];exact dm)) rfl ?_;rw [HXe.out];exact HFn.out
end
section
variable {P:Program} {ops:Array Oper} {Q:Exit->Act->World->Prop} {F:World->Prop} {c:Nat}
theorem qV {fuel:Nat} {listed:Array Bool} {a:Act} {w:World} (i:Nat) {o:Oper} (d:Tmp) (hd:o.dst=some d) (hi:ops[i]?=some o) (hgd:o.guard=none) (hr:Region.ready .any ops listed=[i]) (s x:Operand) (t:TypeId)
 (ho:o.op=.call { callee:=.builtin .append,args:=#[s,x],argTypes:=#[t,t] }) (e:TypeId) (ht:P.underlying t=some (.slice e)) (z:Value) (size bytes:Nat)
 (hin:(P.info? e).map (fun i=>(i.zero,i.size,i.bytes))=some (some z,size,bytes)) (hzs:z.cells.size=size) (hsz:0<size)
 (base n:Nat) (v:Value) (cs:List Value) (hs:a.eval s=v) (hown:w.ownsRow base e size v n cs)
 (b off m cc:Nat) (ys:List Value) (hx:a.eval x=.slice (some ⟨b,off,none⟩) m cc) (hm:0<m) (hy:RowC w (some ⟨b,off,none⟩) m size ys) (h1:∀u∈ys,u.oneCell'=true)
 (hbd:(n+m)*bytes<=140737488355328) (hbd':n+m<=9223372036854775807)
 (hbw:base<=w.heap.size) (B:Nat) (W:World) (hb:Below B W w) (hB:B<=base)
 (h:∀g' cap' w',w'.ownsRow base e size (.slice (some ⟨g',0,none⟩) (n+m) cap') (n+m) (cs++ys)->Below B W w'->((listed.setIfInBounds i true).getD c false=false->F w')∧bK P ops Q F c fuel (listed.setIfInBounds i true) (a.put (some d) (.slice (some ⟨g',0,none⟩) (n+m) cap')) w'):bK P ops Q F c (fuel+1) listed a w:=by
 refine my i hr ?_;unfold wpOp;simp only [hi];rw [if_pos (by simp [Region.wanted,hgd])];refine .inl ?_;refine qZ w s x t ho e ht z size bytes hin hzs hsz base n v cs hs hown b off m cc ys hx hm hy h1 hbd hbd' hbw B W hb hB fun g' cap' w' h2 h3=>?_;rw [hd];exact h g' cap' w' h2 h3
end
theorem qu {zs:List Int} (h:∀i:Nat,0<=zs[i]?.getD 0∧zs[i]?.getD 0<=255) (i:Nat):0<=atM zs i∧atM zs i<=255:=h i
theorem iF (f:Nat->Int) (k:Nat):(List.range (k+1)).map f=(List.range k).map f++[f k]:=by
 rw [List.range_succ,List.map_append];rfl
theorem sC (a:Option Addr) (len cap:Nat) (zs:List Int) (i:Nat) (w:World) (h:Byt w a len zs) (hl:len<=1048576) (hi:i<=1073741824):
 Calls Tryz.prog 42 #[.slice a len cap,.int .i64 i] w fun e w'=>e=.returned (.int .u64 (cz zs i))∧Bw w w':=by
 have HB:Hid _:=h;clear h;go_enter Tryz.func42,Tryz.ntmps42;go_wp2_with fail;have o1:Hid _:=OwnB.new 5 w [] 0 rfl (by decide);have n1:Bw w (w.alloc (Obj.cells #[] 5)):=(brf).alloc nle _;go_loopw [5,6] (fun bv kv wr=>∃(k g cp:Nat),k<=8∧bv=.slice (some ⟨g,0,none⟩) k cp∧kv=.int .i64 k∧OwnB 5 wr w.heap.size g k cp ((List.range k).map fun j=>atM zs (i+j))∧Bw w wr) (fun _ kv _=>8-(intOf kv).toNat)
 case atStart=>exact ⟨0,_,_,Nat.zero_le _,rfl,rfl,o1.out,n1⟩
 case round=>
  clear o1 n1;obtain ⟨k,g,cp,hk,rfl,rfl,hO,hB⟩:=hrel;have HO:=hid hO;have hf1:k<=cp:=by have:=hO.facts;omega
  have hf2:cp<=9223372036854775807:=by have:=hO.facts;simp only [maxLen] at this;omega
  clear hO;by_cases hlt:k<8
  ·go_wp2_with fail;refine (pZ a len cap zs (i+k) wr (Byt.keep HB.out hB) hl (by omega)).mono ?_;rintro e w' ⟨rfl,rfl⟩;have hy:=qu HB.out.2.1 (i+k);obtain ⟨y,hyy⟩:∃y,atM zs (i+k)=y:=⟨_,rfl⟩;have HY:=hid hyy;rw [hyy] at hy |-;clear hyy;obtain ⟨hy1,hy2⟩:=hy;have n2:Bw w (w'.alloc (Obj.cells #[Value.int .u8 y] 5)):=hB.alloc hB.size _;have O3:Hid _:=HO.out.keep ((Below.refl w'.heap.size w').alloc nle (Obj.cells #[Value.int .u8 y] 5)) HO.out.facts.2.2.1;have y3:Hid _:=uZ w' 5 y ⟨hy1,hy2⟩;clear HO;go_wp2_with (at_builtin;refine fk _ rfl (.tmp 12) (.tmp 19) 22 rfl 5 Tryz.underlying22 Tryz.infoB w.heap.size _ _ _ _ rfl O3.out w'.heap.size 0 1 1 [y] rfl y3.out (by omega) _ _ n2 nle ?_;intro g4 cp4 v4 o4 n4;clear O3 y3 n2);go_roundw
   case rel=>
    refine ⟨k+1,g4,cp4,by omega,rfl,by go_num,?_,n4⟩;rw [iF,HY.out];exact o4
   case measure=>simp [intOf];omega
  ·have hkn:k=8:=by omega
   subst hkn;have hby:Hid (Byt wr (some ⟨g,0,none⟩) 8 ((List.range 8).map fun j=>atM zs (i+j))):=HO.out.byt (df fun z hz=>by
    simp only [List.mem_map] at hz;obtain ⟨j,_,rfl⟩:=hz;exact qu HB.out.2.1 _)
   go_wp2_with fail;refine (kM _ _ _ _ _ hby.out (by omega) hf1 hf2).mono ?_;rintro e w' ⟨rfl,nq,rfl⟩;go_wp2;go_ret;exact ⟨rfl,below_drewN hB nq⟩
theorem pH:∀(a b:List EntM),aO (a++b)=aO a++aO b
 | [],b=>rfl
 | e::a,b=>by simp [aO,pH a b]
theorem mf (y:Int) (w:World) (hy:0<=y∧y<=255):
 Calls Tryz.prog 40 #[.int .i64 y] w fun e w'=>(∃x,e=.returned x∧TlbOwn w.heap.size w' x (ae y))∧Bw w w':=by
 obtain ⟨hy1,hy2⟩:=hy;have hm:(y%4=0∨y%4=1∨y%4=2∨y%4=3):=by omega
 obtain ⟨s,hs,hs1⟩:∃s:Nat,((2:Int)^(y%4).toNat)=s∧(s=1∨s=2∨s=4∨s=8):=by
  rcases hm with h | h | h | h <;> rw [h]
  ·exact ⟨1,rfl,.inl rfl⟩
  ·exact ⟨2,rfl,.inr (.inl rfl)⟩
  ·exact ⟨4,rfl,.inr (.inr (.inl rfl))⟩
  ·exact ⟨8,rfl,.inr (.inr (.inr rfl))⟩
 obtain ⟨m,hm1,hm2⟩:∃m:Nat,1+y/4%4=m∧1<=m∧m<=4:=⟨(1+y/4%4).toNat,by omega,by omega,by omega⟩;have HE:Hid (ae y=⟨s,m,List.replicate (s*m) cH⟩):=by
  show _=_;unfold ae;rw [hs,hm1];have:(2:Nat)^(y%4).toNat=s:=by
   have h2:((2:Int)^(y%4).toNat)=(((2:Nat)^(y%4).toNat:Nat):Int):=by simp
   omega
  rw [this];rfl
 have HP:=hid hs.symm;have hs8:1<=s∧s<=8:=by omega
 have hsm:s*m<=32:=by
  rcases hs1 with h | h | h | h <;> subst h <;> omega
 have hsm':(s:Int)*(m:Int)=((s*m:Nat):Int):=by simp
 have HT:Hid (y.tmod 4=y%4∧(y.tdiv 4).tmod 4=y/4%4):=by
  refine ⟨Int.tmod_eq_emod_of_nonneg hy1,?_⟩;rw [Int.tdiv_eq_ediv_of_nonneg hy1,Int.tmod_eq_emod_of_nonneg (by omega)]
 obtain ⟨n,hn⟩:∃n,s*m=n:=⟨_,rfl⟩;have hwm:IntKind.i64.wrap ((s:Int)*(m:Int))=(n:Int):=(IntKind.wrap_i64 _).trans (by rw [hsm',hn];omega);have Hn1:Hid (1<=n):=by show 1<=n;rw [<-hn];exact Nat.mul_pos hs8.1 hm2.1
 rw [hn] at HE hsm;clear hs hs1 hn hsm';have s0:Hid (((w.alloc (Obj.cells #[.int .i64 0,.int .i64 0,.slice none 0 0] 39)).alloc (Obj.cells #[.int .i64 s,.int .i64 m,.slice none 0 0] 39)).heap[w.heap.size+1]?=some (.cells #[.int .i64 s,.int .i64 m,.slice none 0 0] 39 (0,0))):=(jI w _ _ _ _).2.1;have r0:Hid (((w.alloc (Obj.cells #[.int .i64 0,.int .i64 0,.slice none 0 0] 39)).alloc (Obj.cells #[.int .i64 s,.int .i64 m,.slice none 0 0] 39)).heap[w.heap.size]?=some (.cells #[.int .i64 0,.int .i64 0,.slice none 0 0] 39 (0,0))):=(jI w _ _ _ _).1;have b0:=(jI w #[.int .i64 0,.int .i64 0,.slice none 0 0] #[.int .i64 s,.int .i64 m,.slice none 0 0] 39 39).2.2.2;go_enter Tryz.func40,Tryz.ntmps40;go_wp2_with (go_at_call 84;refine (bj (y%4) s _ (by omega) HP.out).mono ?_;rintro e w' ⟨rfl,rfl⟩);go_loopw [4] (fun iv wr=>∃(i:Nat) (ra:Option Addr) (rc:Nat),i<=n∧iv=.int .i64 i∧wr.heap[w.heap.size+1]?=some (.cells #[.int .i64 s,.int .i64 m,.slice ra i rc] 39 (0,0))∧
  wr.heap[w.heap.size]?=some (.cells #[.int .i64 0,.int .i64 0,.slice none 0 0] 39 (0,0))∧wr.ownsRow (w.heap.size+2) 127 6 (.slice ra i rc) i (aO (List.replicate i cH))∧Bw w wr) (fun iv _=>n-(intOf iv).toNat)
 case atStart=>exact ⟨0,none,0,Nat.zero_le _,rfl,s0.out,r0.out,World.ownsRow_nil _ _ _ _,b0⟩
 case round=>
  clear s0 r0 b0;obtain ⟨i,ra,rc,hi,rfl,hS,hR,hO,hb⟩:=hrel;have HS:Hid _:=hS;have HR:Hid _:=hR;have HO:Hid _:=hO;have hlt:=(hpl hS);obtain ⟨⟨c0,c1,c2⟩,e0,e1,e2⟩:=aA hS;obtain ⟨⟨d0,d1,d2⟩,f0,f1,f2⟩:=aA hR;clear hS hR hO;by_cases hin:i<n
  ·have n4:=(Below.refl wr.heap.size wr).alloc nle (Obj.cells #[.bool false,.int .i64 0,.int .u64 0,.int .u64 0,.bool false,.int .u64 0] 127);have HS4:Hid _:=ag HS.out n4 hlt;have HR4:Hid _:=ag HR.out n4 (by omega);have HO4:Hid _:=aj HO.out n4;have HW4:=hid ((OwnC.new 127 6 wr (aO [cH]) 1 (by rfl) (by decide)).row);have l4:wr.heap.size<(wr.alloc (Obj.cells #[.bool false,.int .i64 0,.int .u64 0,.int .u64 0,.bool false,.int .u64 0] 127)).heap.size:=by simp
   have b4:Bw w (wr.alloc (Obj.cells #[.bool false,.int .i64 0,.int .u64 0,.int .u64 0,.bool false,.int .u64 0] 127)):=hb.alloc (by omega) _;go_wp2_with (at_builtin;refine mw _ rfl (.tmp 24) (.tmp 26) 37 rfl 127 Tryz.underlying37 (.agg #[.bool false,.int .i64 0,.int .u64 0,.int .u64 0,.bool false,.int .u64 0]) 6 48 Tryz.infoEnt rfl (by decide) (w.heap.size+2) i _ (aO (List.replicate i cH)) rfl HO4.out wr.heap.size 0 1 1 (aO [cH]) rfl (by omega) HW4.out (ql _) (by omega) (by omega) (by omega) (w.heap.size+2) _ brf nle ?_;intro g5 cp5 v5 o5 n5;have HO5:Hid _:=o5;have HS5:Hid _:=(n5.block _ (by omega)).trans HS4.out;have HR5:Hid _:=(n5.block _ (by omega)).trans HR4.out;have b5:Bw w v5:=b4.trans (n5.mono (by omega));have l5:=n5.size;clear o5 n5 HO4 HS4 HR4 HW4 l4 b4 n4;clear c0 c1 c2 e0 e1 e2 d0 d1 d2 f0 f1 f2;obtain ⟨⟨c0,c1,c2⟩,e0,e1,e2⟩:=aA HS5.out);refine ⟨⟨i+1,some ⟨g5,0,none⟩,cp5,by omega,by go_num,ET HS5.out,aB HR5.out (aq (aw v5 (some (w.heap.size+1))) 2 _) (by omega),?_,b5.setCell (p:=⟨w.heap.size+1,2,none⟩) (by show w.heap.size<=w.heap.size+1;omega) _⟩,?_⟩
   ·have:=aG HO5.out (aq (aw v5 (some (w.heap.size+1))) 2 (.slice (some ⟨g5,0,none⟩) (i+1) cp5)) (by omega);rw [<-pH] at this;rw [List.replicate_succ'];exact this
   ·simp [intOf];omega
  ·have hin':i=n:=by omega
   subst hin';go_wp2_with fail;refine bodyPost_ret (v:=.agg #[.int .i64 s,.int .i64 m,.slice ra i rc]) (by simp [results,Tryz.results40,go_sem,d0,d1,d2]) rfl ?_;refine ⟨⟨_,rfl,?_⟩,gQ hb nle _ _ _⟩;rw [HE.out];have O:=aJ (aG HO.out (gb3 wr w.heap.size (.int .i64 s) (.int .i64 m) (.slice ra i rc)) (by omega)) (show w.heap.size<=w.heap.size+2 by omega);rcases O.2 with ⟨h1,h2⟩ | ⟨g,cap,cur,h1,r⟩
   ·exfalso;have:=Hn1.out;omega
   ·cases h1;refine ⟨g,rc,by simp,?_⟩;simp only [List.length_replicate];exact O
end Go.Proofs.YtkenjknmfhoppaaGreat
