import Derived.Test.YthdgiakgepmabaaGreatDk25
namespace Go.Proofs.YthdgiakgepmabaaGreat
open Go.RowKit
set_option linter.unusedVariables false
set_option maxHeartbeats 6400000
set_option maxRecDepth 20000
section
attribute [local go_sem ↓] Go.wp_at_zero Go.wp_at_succ
structure PlO (plain:Bool):Prop where
 t:PlC plain
 f:PlF plain
 e:plain=true∨Ge
theorem Dh:PlO true:=⟨.inl rfl,.inl rfl,.inl rfl⟩
def oM (w:World) (plain:Bool) (pick:Int) (X:RunM):Ending->World->Prop:=fun e w'=>(∃p' al' cl',e=.returned (.agg (aG p' al' cl' plain pick X))∧RunIn w' p' al' cl' X∧(∀q,some q∈be p'->w.heap.size<=q.block)∧∀q,al'=some q->w.heap.size<=q.block)∧Bw w w'
theorem xp {w v2:World} {p':PtrM} {al':Option Addr} {cl':Nat} {plain:Bool} {pick:Int} {X:RunM} (hI:RunIn v2 p' al' cl' X) (hp:∀q,some q∈be p'->w.heap.size+2<=q.block) (hl:∀q,al'=some q->w.heap.size+2<=q.block) (hn:Bw w v2) (L:List Value):
 oM w plain pick X (.returned (.agg (aG p' al' cl' plain pick X))) (v2.setCells (w.heap.size+1) 0 L):=by
 have g:=aH (w.heap.size+1) L 0 v2 v2 (ao v2 _);refine ⟨⟨p',al',cl',rfl,hI.gb g (fun q hq=>?_) (fun q hq=>?_),fun q hq=>?_,fun q hq=>?_⟩,aK (by omega) L 0 v2 hn⟩
 ·have:=hp q hq;omega
 ·have:=hl q hq;omega
 ·have:=hp q hq;omega
 ·have:=hl q hq;omega
theorem lO {t:TlbM} {p:Bool} (h:aY t p=true):0<t.es.length:=by
 obtain ⟨h1,h2,h3,h4⟩:=fS h;rcases h1 with h | h | h | h <;> rw [h] at h4 <;> omega
theorem Di (p q:PtrM) (al:Option Addr) (cl:Nat) (plain:Bool) (pick:Int) (r:RunM) (h:HartM):jG (aG p al cl plain pick r) 0 (ak q h).toList=aG q al cl plain pick (bA r h):=by
 simp [jG,aG,ak,bA]
theorem zl {plain:Bool} (hO:PlO plain) (p:PtrM) (h:HartM) (pick:Int) (w:World) (hi:HartIn w p h) (hk:HOk h) (hpk:0<=pick∧pick<=255):
 Calls Tryz.prog 14 #[.agg (ak p h),.bool plain,VI pick] w (oM w plain pick (bT plain pick h)):=by
 have HI:Hid (HartIn w p h):=hi;have HOK:Hid (HOk h):=hk;have hsz:=iy hk.v.size;have HCp0:Hid (∀u,HartIn u p h->Calls Tryz.prog 30 #[.agg (ak p h)] u fun e w'=>(∃pp:PtrM,e=.returned (.agg #[.slice pp.am h.mem.length pp.cm,.slice pp.ar h.regs.length pp.cr,VU h.pc,VI h.mode,.bool h.sum,.bool h.mxr,VU h.satp,VU h.tvec,VU h.epc,VI h.emode,VI h.cause,VU h.tval,VI h.k.i.sets,VI h.k.i.ways,.slice pp.a1 h.k.i.es.length pp.c1,VI h.k.d.sets,VI h.k.d.ways,.slice pp.a2 h.k.d.es.length pp.c2,VI h.k.p.sets,VI h.k.p.ways,.slice pp.a3 h.k.p.es.length pp.c3])∧HartIn w' pp h∧∀q,some q∈be pp->u.heap.size<=q.block)∧Bw u w'):=fun u hu=>za p h u hu (by omega) (by omega) (by rw [hk.v.regs];omega);obtain ⟨X,hX⟩:∃X,bT plain pick h=X:=⟨_,rfl⟩;have HX:Hid (bT plain pick h=X):=hX;rw [hX];have hhs:=et p h;have lI:((ak p h).toList.drop 12).take 3=[VI h.k.i.sets,VI h.k.i.ways,.slice p.a1 h.k.i.es.length p.c1]:=rfl;have lD:((ak p h).toList.drop 15).take 3=[VI h.k.d.sets,VI h.k.d.ways,.slice p.a2 h.k.d.es.length p.c2]:=rfl;have lP:((ak p h).toList.drop 18).take 3=[VI h.k.p.sets,VI h.k.p.ways,.slice p.a3 h.k.p.es.length p.c3]:=rfl;have d2:(ak p h)[2]?=some (VU h.pc):=rfl;have d3:(ak p h)[3]?=some (VI h.mode):=rfl;have d7:(ak p h)[7]?=some (VU h.tvec):=rfl;generalize ak p h=HA at HCp0 hhs lI lD lP d2 d3 d7 |-;clear hX hi hk;obtain ⟨hpk1,hpk2⟩:=hpk;obtain ⟨Q,hQ⟩:∃Q,bodyPost Tryz.prog Tryz.f14 (oM w plain pick X)=Q:=⟨_,rfl⟩;have HQ:Hid _:=hQ;have HQp:Hid (∀x (a:Act) d z w,Q (.panic x) (a.put d z) w->Q (.panic x) a w):=by
  show ∀x (a:Act) d z w,Q (.panic x) (a.put d z) w->Q (.panic x) a w;rw [<-HQ.out];exact fun _ _ d _ _ h=>by cases d <;> exact h
 go_enter Tryz.func14,Tryz.ntmps14;rw [hQ];clear hQ;go_upto_region 1 with fail;obtain ⟨v1,Ev1,F⟩:=ax2 w HA eS 44 54;rw [Ev1.out];clear Ev1;obtain ⟨h3,h6,l1,n1⟩:=F;have H3:Hid _:=h3;have H6:Hid _:=h6;clear h3 h6;have HLh:Hid _:=aW (P:=Tryz.prog) (T:=44) H3.out Tryz.underlying44 rfl (by rw [hhs];exact fy);go_wp2_with ((with_reducible refine bj ?_ HLh.out ?_);(exact rfl));refine (HCp0.out v1 (HI.out.keep n1)).mono ?_;rintro e v2 ⟨⟨pp,rfl,hI2,hP2⟩,n2⟩;have hv2:=n2.size;have a3:=bF v2 eS 54;have hR0:=bP pp none 0 plain pick (⟨h,0,0,[],false,eQ⟩:RunM);have HR0o:Hid _:=dM pp none 0 plain pick (⟨h,0,0,[],false,eQ⟩:RunM);have HS3:Hid _:=aR (P:=Tryz.prog) (T:=54) (V:=aG pp none 0 plain pick (⟨h,0,0,[],false,eQ⟩:RunM)) a3.1 (by rw [hR0];exact dq) (by rw [hR0,aS]) HR0o.out;have HT3:Hid _:=aI (V:=aG pp none 0 plain pick (⟨h,0,0,[],false,eQ⟩:RunM)) a3.1 (by rw [hR0,aS]);have n3:=aK (Nat.le_refl v2.heap.size) (aG pp none 0 plain pick (⟨h,0,0,[],false,eQ⟩:RunM)).toList 0 _ a3.2.2;have s3:((v2.alloc (Obj.cells eS 54)).setCells v2.heap.size 0 (aG pp none 0 plain pick (⟨h,0,0,[],false,eQ⟩:RunM)).toList).heap.size=v2.heap.size+1:=by rw [cF,a3.2.1]
 clear a3 HLh;go_upto_region 2 with ((with_reducible refine az ?_ ?_ HS3.out ?_);(exact rfl);(exact rfl));have n13:=bst n1 (bst n2 n3);have hrb:v2.heap.size<((v2.alloc (Obj.cells eS 54)).setCells v2.heap.size 0 (aG pp none 0 plain pick (⟨h,0,0,[],false,eQ⟩:RunM)).toList).heap.size:=by omega
 have H33:Hid _:=ae H3.out (bst n2 n3) (by omega);have H63:Hid _:=ae H6.out (bst n2 n3) (by omega);have HI3:Hid (HartIn ((v2.alloc (Obj.cells eS 54)).setCells v2.heap.size 0 (aG pp none 0 plain pick (⟨h,0,0,[],false,eQ⟩:RunM)).toList) pp h):=hI2.keep n3;have HP3:Hid (∀q,some q∈be pp->w.heap.size+2<=q.block∧q.block<v2.heap.size):=fun q hq=>⟨by have:=hP2 q hq;omega,hI2.low q hq⟩;generalize (v2.alloc (Obj.cells eS 54)).setCells v2.heap.size 0 (aG pp none 0 plain pick (⟨h,0,0,[],false,eQ⟩:RunM)).toList=v3 at HT3 n13 hrb H33 H63 HI3 |-;generalize v2.heap.size=rb at HT3 hrb HP3 hv2 |-;have hrb2:w.heap.size+2<=rb:=by omega
 clear HS3 n3 n2 n1 s3 hI2 hP2 H3 H6 hv2;have HRI:Hid (RunIn v3 pp none 0 (⟨h,0,0,[],false,eQ⟩:RunM)):=⟨HI3.out,⟨rfl,.inl rfl⟩,⟨nle,by decide⟩,⟨fun _=>⟨rfl,rfl⟩,fun q hq=>by cases hq⟩,Nat.zero_le _,fun q hq=>by cases hq⟩;have lI2:w.heap.size<v3.heap.size:=by omega
 have HHA:Hid _:=H33.out;simp only [Act.put];go_cut [19] from 14 to 18 (fun s wx=>∃bb,s=.bool bb∧Hid ((decide (128<=pick) && !plain)=bb)∧v3=wx)
 case first=>
  clear HT3 H33 H63 HRI HI3 HP3 n13 hrb lI2;by_cases hc:128<=pick <;> cases plain <;> (go_wp2_with fail;go_meet;case rel=>exact ⟨_,rfl,(by simp [hc]:(_:Bool)=_),rfl⟩)
 case rest=>
 obtain ⟨bb,rfl,HBB,rfl⟩:=hcut;go_upto_if 19 with fail;go_cut [] from 20 to 40 (fun wx=>∃PA:PtrM,Bw w wx∧Hid (wx.heap[rb]?=some (.cells (aG PA none 0 plain pick (bx plain pick h)) 54 (0,0)))∧Hid (wx.heap[w.heap.size]?=some (.cells HA 44 (0,0)))∧Hid (wx.heap[w.heap.size+1]?=some (.cells eS 54 (0,0)))∧rb<wx.heap.size∧Hid (∀q,some q∈be PA->w.heap.size+2<=q.block∧q.block≠rb)∧Hid (RunIn wx PA none 0 (bx plain pick h)))
 case first=>
  by_cases hev:128<=pick∧plain=false
  ·obtain ⟨hev1,rfl⟩:=hev;have HEv:=hid (hO.e.resolve_left (by decide));have HWp:Hid (IntKind.i64.wrap (pick-128)=pick-128):=(IntKind.wrap_i64 _).trans (by omega);have HY:Hid (bx false pick h=bA (⟨h,0,0,[],false,eQ⟩:RunM) (withK h (⟨bh h.k.i (pick-128),bh h.k.d (pick-128),bh h.k.p (pick-128)⟩:KM))):=by
    show _=_;unfold bx eR;rw [if_pos ⟨hev1,rfl⟩];rfl
   have HKs:Hid (KAt v3 (.agg (kA p h.k)) h.k):=HI.out.ks.keep n13;obtain ⟨z1,z2,z3,z4,z5,z6,hz,tI,tD,tP⟩:=HKs.out;simp only [kA,Value.agg.injEq,Array.mk.injEq,List.cons.injEq,Value.slice.injEq,true_and,and_true] at hz;obtain ⟨⟨rfl,rfl⟩,⟨rfl,rfl⟩,rfl,rfl⟩:=hz;have hgk:=HOK.out.v.ks;simp only [cz,Bool.and_eq_true] at hgk;have es1:=lO hgk.1.1;have es2:=lO hgk.1.2;have es3:=lO hgk.2;have HCi:Hid (∀u,Bw v3 u->Calls Tryz.prog 31 #[.agg #[VI h.k.i.sets,VI h.k.i.ways,.slice p.a1 h.k.i.es.length p.c1],VI (pick-128)] u fun e w'=>(∃x,e=.returned x∧TlbOwn u.heap.size w' x (bh h.k.i (pick-128)))∧Bw u w'):=fun u hu=>HEv.out _ h.k.i (pick-128) u (tI.keep hu) es1 (by omega);have HCd:Hid (∀u,Bw v3 u->Calls Tryz.prog 31 #[.agg #[VI h.k.d.sets,VI h.k.d.ways,.slice p.a2 h.k.d.es.length p.c2],VI (pick-128)] u fun e w'=>(∃x,e=.returned x∧TlbOwn u.heap.size w' x (bh h.k.d (pick-128)))∧Bw u w'):=fun u hu=>HEv.out _ h.k.d (pick-128) u (tD.keep hu) es2 (by omega);have HCp:Hid (∀u,Bw v3 u->Calls Tryz.prog 31 #[.agg #[VI h.k.p.sets,VI h.k.p.ways,.slice p.a3 h.k.p.es.length p.c3],VI (pick-128)] u fun e w'=>(∃x,e=.returned x∧TlbOwn u.heap.size w' x (bh h.k.p (pick-128)))∧Bw u w'):=fun u hu=>HEv.out _ h.k.p (pick-128) u (tP.keep hu) es3 (by omega);have hDs:=bP pp none 0 false pick (⟨h,0,0,[],false,eQ⟩:RunM);have HDk:Hid (∀q k,jG (aG pp none 0 false pick (⟨h,0,0,[],false,eQ⟩:RunM)) 12 (kA q k).toList=aG (pK pp q.a1 q.c1 q.a2 q.c2 q.a3 q.c3) none 0 false pick (bA (⟨h,0,0,[],false,eQ⟩:RunM) (withK (⟨h,0,0,[],false,eQ⟩:RunM).h k))):=fun q k=>Ec pp q none 0 false pick (⟨h,0,0,[],false,eQ⟩:RunM) k;generalize aG pp none 0 false pick (⟨h,0,0,[],false,eQ⟩:RunM)=D at HT3 hDs HDk;have HLi:Hid (∀u:World,u.heap[w.heap.size]?=some (.cells HA 44 (0,0))->(Instr.loadAt 40 (PT w.heap.size 12)).run Tryz.prog u=.ok (.agg #[VI h.k.i.sets,VI h.k.i.ways,.slice p.a1 h.k.i.es.length p.c1]) u):=fun u hu=>eA (P:=Tryz.prog) hu Tryz.underlying40 rfl (o:=12) _ (by kernel_rfl) lI rfl;have HLd:Hid (∀u:World,u.heap[w.heap.size]?=some (.cells HA 44 (0,0))->(Instr.loadAt 40 (PT w.heap.size 15)).run Tryz.prog u=.ok (.agg #[VI h.k.d.sets,VI h.k.d.ways,.slice p.a2 h.k.d.es.length p.c2]) u):=fun u hu=>eA (P:=Tryz.prog) hu Tryz.underlying40 rfl (o:=15) _ (by kernel_rfl) lD rfl;have HLp:Hid (∀u:World,u.heap[w.heap.size]?=some (.cells HA 44 (0,0))->(Instr.loadAt 40 (PT w.heap.size 18)).run Tryz.prog u=.ok (.agg #[VI h.k.p.sets,VI h.k.p.ways,.slice p.a3 h.k.p.es.length p.c3]) u):=fun u hu=>eA (P:=Tryz.prog) hu Tryz.underlying40 rfl (o:=18) _ (by kernel_rfl) lP rfl;clear tI tD tP lI lD lP;obtain rfl:bb=true:=by rw [<-HBB.out];simp [hev1]
   go_upto_region 3 with fail;have hF:v3.drew.heap[w.heap.size]?=some (.cells HA 44 (0,0))∧v3.drew.heap[rb]?=some (.cells D 54 (0,0)):=⟨H33.out,HT3.out⟩;refine ax (fun u=>u.heap[w.heap.size]?=some (.cells HA 44 (0,0))∧u.heap[rb]?=some (.cells D 54 (0,0))) 21 ?_;refine aj 0 20 (PT w.heap.size 12) rfl hF ?_ (hQ:=hqp HQp);refine aj 1 21 (PT w.heap.size 12) rfl hF ?_ (hQ:=hqp HQp)
   go_frame
   refine aj 2 22 (.agg #[VI h.k.i.sets,VI h.k.i.ways,.slice p.a1 h.k.i.es.length p.c1]) rfl hF ?_ (hQ:=hqp HQp) (hy:=fun u hu=>aD rfl (HLi.out u hu.1));refine aj 3 23 (VI pick) rfl hF ?_ (hQ:=hqp HQp)
   go_frame
   refine aj 4 24 (VI (pick-128)) rfl hF ?_ (hQ:=hqp HQp) (hy:=fun u hu=>(by have h1:=HWp.out;go_simp));refine aj 6 26 (PT w.heap.size 12) rfl hF ?_ (hQ:=hqp HQp);refine aj 7 27 (PT w.heap.size 15) rfl hF ?_ (hQ:=hqp HQp)
   go_frame
   refine aj 8 28 (.agg #[VI h.k.d.sets,VI h.k.d.ways,.slice p.a2 h.k.d.es.length p.c2]) rfl hF ?_ (hQ:=hqp HQp) (hy:=fun u hu=>aD rfl (HLd.out u hu.1));refine aj 9 29 (VI pick) rfl hF ?_ (hQ:=hqp HQp)
   go_frame
   refine aj 10 30 (VI (pick-128)) rfl hF ?_ (hQ:=hqp HQp) (hy:=fun u hu=>(by have h1:=HWp.out;go_simp));refine aj 12 32 (PT w.heap.size 12) rfl hF ?_ (hQ:=hqp HQp);refine aj 13 33 (PT w.heap.size 18) rfl hF ?_ (hQ:=hqp HQp)
   go_frame
   refine aj 14 34 (.agg #[VI h.k.p.sets,VI h.k.p.ways,.slice p.a3 h.k.p.es.length p.c3]) rfl hF ?_ (hQ:=hqp HQp) (hy:=fun u hu=>aD rfl (HLp.out u hu.1));refine aj 15 35 (VI pick) rfl hF ?_ (hQ:=hqp HQp)
   go_frame
   refine aj 16 36 (VI (pick-128)) rfl hF ?_ (hQ:=hqp HQp) (hy:=fun u hu=>(by have h1:=HWp.out;go_simp))
   go_frame
   refine du 5 25 rfl (f:=31) (args:=#[.agg #[VI h.k.i.sets,VI h.k.i.ways,.slice p.a1 h.k.i.es.length p.c1],VI (pick-128)]) ?_;refine (HCi.out v3.drew ((brf).drew)).mono ?_;rintro e u1 ⟨⟨x1,rfl,hx1⟩,m1'⟩;have m1:Bw v3 u1:=bst ((brf).drew) m1';obtain ⟨g1,cap1,rfl,o1⟩:=hx1;refine ⟨_,rfl,fun _=>⟨ae H33.out m1 lI2,ae HT3.out m1 hrb⟩,?_⟩
   go_frame
   refine du 11 31 rfl (f:=31) (args:=#[.agg #[VI h.k.d.sets,VI h.k.d.ways,.slice p.a2 h.k.d.es.length p.c2],VI (pick-128)]) ?_;refine (HCd.out u1 (m1)).mono ?_;rintro e u2 ⟨⟨x2,rfl,hx2⟩,m2'⟩;have m2:Bw v3 u2:=bst (m1) m2';obtain ⟨g2,cap2,rfl,o2⟩:=hx2;refine ⟨_,rfl,fun _=>⟨ae H33.out m2 lI2,ae HT3.out m2 hrb⟩,?_⟩
   go_frame
   refine du 17 37 rfl (f:=31) (args:=#[.agg #[VI h.k.p.sets,VI h.k.p.ways,.slice p.a3 h.k.p.es.length p.c3],VI (pick-128)]) ?_;refine (HCp.out u2 (m2)).mono ?_;rintro e u3 ⟨⟨x3,rfl,hx3⟩,m3'⟩;have m3:Bw v3 u3:=bst (m2) m3';obtain ⟨g3,cap3,rfl,o3⟩:=hx3;refine ⟨_,rfl,fun _=>⟨ae H33.out m3 lI2,ae HT3.out m3 hrb⟩,?_⟩
   go_frame
   have KR:KRows v3.heap.size u3 (pK pp (some (AD g1 0)) cap1 (some (AD g2 0)) cap2 (some (AD g3 0)) cap3) (⟨bh h.k.i (pick-128),bh h.k.d (pick-128),bh h.k.p (pick-128)⟩:KM):=⟨bS (aq (aq o1 m2') m3') nle,bS (aq o2 m3') m1.size,bS o3 m2.size⟩;have J3:=ae HT3.out m3 hrb;have HSk:Hid _:=fq (P:=Tryz.prog) (T:=42) J3 (o:=12) (V:=kA (pK pp (some (AD g1 0)) cap1 (some (AD g2 0)) cap2 (some (AD g3 0)) cap3) (⟨bh h.k.i (pick-128),bh h.k.d (pick-128),bh h.k.p (pick-128)⟩:KM)) (by rw [show (kA (pK pp (some (AD g1 0)) cap1 (some (AD g2 0)) cap2 (some (AD g3 0)) cap3) (⟨bh h.k.i (pick-128),bh h.k.d (pick-128),bh h.k.p (pick-128)⟩:KM)).size=9 from rfl];exact kI) (by rw [show (kA (pK pp (some (AD g1 0)) cap1 (some (AD g2 0)) cap2 (some (AD g3 0)) cap3) (⟨bh h.k.i (pick-128),bh h.k.d (pick-128),bh h.k.p (pick-128)⟩:KM)).size=9 from rfl];omega) (CQ _ _);have HJ:Hid _:=dn rb (kA (pK pp (some (AD g1 0)) cap1 (some (AD g2 0)) cap2 (some (AD g3 0)) cap3) (⟨bh h.k.i (pick-128),bh h.k.d (pick-128),bh h.k.p (pick-128)⟩:KM)).toList 12 u3 D _ _ J3 (by show 12+9<=_;omega);refine fN 18 38 (.agg (kA (pK pp (some (AD g1 0)) cap1 (some (AD g2 0)) cap2 (some (AD g3 0)) cap3) (⟨bh h.k.i (pick-128),bh h.k.d (pick-128),bh h.k.p (pick-128)⟩:KM))) rfl (.inr ⟨ae H33.out m3 lI2,J3⟩) ?_ (hQ:=hqp HQp)
   go_frame
   refine fN 19 39 (PT rb 0) rfl (.inr ⟨ae H33.out m3 lI2,J3⟩) ?_ (hQ:=hqp HQp)
   go_frame
   refine fN 20 40 (PT rb 12) rfl (.inr ⟨ae H33.out m3 lI2,J3⟩) ?_ (hQ:=hqp HQp)
   go_frame
   refine dz 21 40 38 rfl HSk.out ?_;refine dc ?_;rw [HDk.out] at HJ;have g4:=aH rb (kA (pK pp (some (AD g1 0)) cap1 (some (AD g2 0)) cap2 (some (AD g3 0)) cap3) (⟨bh h.k.i (pick-128),bh h.k.d (pick-128),bh h.k.p (pick-128)⟩:KM)).toList 12 u3 u3 (ao u3 _);have nA:=aK (show w.heap.size<=rb by omega) (kA (pK pp (some (AD g1 0)) cap1 (some (AD g2 0)) cap2 (some (AD g3 0)) cap3) (⟨bh h.k.i (pick-128),bh h.k.d (pick-128),bh h.k.p (pick-128)⟩:KM)).toList 12 u3 (bst n13 m3);have KR4:=KR.gb g4 hrb;have HRb:Hid ((u3.setCells rb 12 (kA (pK pp (some (AD g1 0)) cap1 (some (AD g2 0)) cap2 (some (AD g3 0)) cap3) (⟨bh h.k.i (pick-128),bh h.k.d (pick-128),bh h.k.p (pick-128)⟩:KM)).toList).heap[rb]?=some (.cells (aG (pK pp (some (AD g1 0)) cap1 (some (AD g2 0)) cap2 (some (AD g3 0)) cap3) none 0 false pick (bx false pick h)) 54 (0,0))):=by rw [HY.out];exact HJ.out
   have HHb:Hid _:=aA (ae H33.out m3 lI2) g4 (show w.heap.size≠rb by omega);have HKb:Hid _:=aA (ae H63.out m3 (by omega)) g4 (show w.heap.size+1≠rb by omega);have hsA:rb<(u3.setCells rb 12 (kA (pK pp (some (AD g1 0)) cap1 (some (AD g2 0)) cap2 (some (AD g3 0)) cap3) (⟨bh h.k.i (pick-128),bh h.k.d (pick-128),bh h.k.p (pick-128)⟩:KM)).toList).heap.size:=ltl hrb (Nat.le_trans m3.size g4.size);have HPA:Hid (∀q,some q∈be (pK pp (some (AD g1 0)) cap1 (some (AD g2 0)) cap2 (some (AD g3 0)) cap3)->w.heap.size+2<=q.block∧q.block≠rb):=fun q hq=>by
    simp only [be,pK,List.mem_cons,List.not_mem_nil,or_false] at hq;rcases hq with hq | hq | hq | hq | hq
    ·have:=HP3.out q (by simp [be,hq]);omega
    ·have:=HP3.out q (by simp [be,hq]);omega
    ·have:=(KR.ptrs q (by simp [pK,hq])).1;omega
    ·have:=(KR.ptrs q (by simp [pK,hq])).1;omega
    ·have:=(KR.ptrs q (by simp [pK,hq])).1;omega
   have HIA:Hid (RunIn (u3.setCells rb 12 (kA (pK pp (some (AD g1 0)) cap1 (some (AD g2 0)) cap2 (some (AD g3 0)) cap3) (⟨bh h.k.i (pick-128),bh h.k.d (pick-128),bh h.k.p (pick-128)⟩:KM)).toList) (pK pp (some (AD g1 0)) cap1 (some (AD g2 0)) cap2 (some (AD g3 0)) cap3) none 0 (bx false pick h)):=by
    rw [HY.out];have k:=(HRI.out.keep m3).gb g4 (fun q hq=>by have:=HP3.out q hq;omega) (fun q hq=>by cases hq);refine ⟨⟨k.h.mem,k.h.memc,k.h.regs,k.h.regc,k.h.rega,KR4.at ⟨kd HOK.out.ks.1,kd HOK.out.ks.2.1,kd HOK.out.ks.2.2⟩,fun q hq=>?_⟩,k.looks,k.lookc,k.looka,k.lookl,k.low⟩;simp only [be,pK,List.mem_cons,List.not_mem_nil,or_false] at hq;rcases hq with hq | hq | hq | hq | hq
    ·exact k.h.low q (by simp [be,hq])
    ·exact k.h.low q (by simp [be,hq])
    ·exact (KR4.ptrs q (by simp [pK,hq])).2
    ·exact (KR4.ptrs q (by simp [pK,hq])).2
    ·exact (KR4.ptrs q (by simp [pK,hq])).2
   go_wp2;go_meet
   case rel=>exact ⟨_,nA,HRb.out,HHb.out,HKb.out,hsA,HPA.out,HIA.out⟩
  ·have HY:Hid (bx plain pick h=(⟨h,0,0,[],false,eQ⟩:RunM)):=by
    show _=_;unfold bx eR;rw [if_neg hev];rfl
   have HRb:Hid (v3.heap[rb]?=some (.cells (aG pp none 0 plain pick (bx plain pick h)) 54 (0,0))):=by rw [HY.out];exact HT3.out
   have HIA:Hid (RunIn v3 pp none 0 (bx plain pick h)):=by rw [HY.out];exact HRI.out
   have HPA:Hid (∀q,some q∈be pp->w.heap.size+2<=q.block∧q.block≠rb):=fun q hq=>by have:=HP3.out q hq;omega
   have hcond:(decide (128<=pick) && !plain)=false:=by
    cases plain
    ·have:¬128<=pick:=fun h=>hev ⟨h,rfl⟩;simp [this]
    ·simp
   obtain rfl:bb=false:=by rw [<-HBB.out];exact hcond
   go_wp2;go_meet
   case rel=>exact ⟨_,n13,HRb.out,H33.out,H63.out,hrb,HPA.out,HIA.out⟩
 case rest=>
 clear HT3 H33 H63 HRI HI3 HP3 n13 hrb lI2 HHA;obtain ⟨PA,nA,HRb,HHb,HKb,hsA,HPA,HIA⟩:=hcut;rename World=>vA;have HZk:Hid (ROk (cY plain pick (bx plain pick h))):=wS plain ⟨hpk1,hpk2⟩ (ke plain pick HOK.out);have HBd:Hid (∀u,RunIn u PA none 0 (bx plain pick h)->Calls Tryz.prog 32 #[.agg (aG PA none 0 plain pick (bx plain pick h))] u (fG u PA none 0 plain pick (cY plain pick (bx plain pick h)))):=fun u hu=>zS hO.t hO.f PA none 0 pick (bx plain pick h) u hu (ke plain pick HOK.out) ⟨hpk1,hpk2⟩ rfl (by show 0<=5;omega);have hRa:=bP PA none 0 plain pick (bx plain pick h);have HXz:Hid (X=kX h (cY plain pick (bx plain pick h))):=by show _=_;rw [<-HX.out];rfl
 generalize (cY plain pick (bx plain pick h))=Z at HZk HBd HXz;generalize aG PA none 0 plain pick (bx plain pick h)=D0 at HRb HBd hRa;generalize (bx plain pick h)=Y0 at HBd HIA;have HLr:Hid _:=aW (P:=Tryz.prog) (T:=54) HRb.out Tryz.underlying54 rfl (by rw [hRa];exact dq);go_upto_region 4 with fail;go_wp2_with ((with_reducible refine bj ?_ HLr.out ?_);(exact rfl));refine (HBd.out vA HIA.out).mono ?_;rintro e vB ⟨⟨pB,alB,clB,rfl,hIB,hFB,hLB⟩,nB⟩;have hR1:=bP pB alB clB plain pick Z;have HR1o:Hid _:=dM pB alB clB plain pick Z;have e23:(aG pB alB clB plain pick Z)[23]?=some (VI Z.cause):=rfl;have e24:(aG pB alB clB plain pick Z)[24]?=some (VU Z.tval):=rfl;have eK:((aG pB alB clB plain pick Z).toList.drop 12).take 9=(kA pB Z.h.k).toList:=rfl;have HEh:Hid (∀q g,jG (aG pB alB clB plain pick Z) 0 (ak q g).toList=aG q alB clB plain pick (bA Z g)):=fun q g=>Di pB q alB clB plain pick Z g;have hPB:∀q,some q∈be pB->w.heap.size+2<=q.block∧q.block≠rb:=fun q hq=>by
  rcases hFB q hq with hh | hh
  ·exact HPA.out q hh
  ·have h':vA.heap.size<=q.block:=hh;omega
 have hLB':∀q,alB=some q->w.heap.size+2<=q.block∧q.block≠rb:=fun q hq=>by
  rcases hLB q hq with hh | hh
  ·cases hh
  ·have h':vA.heap.size<=q.block:=hh;omega
 have HPB:Hid _:=hPB;have HLB:Hid _:=hLB';have J0:=ae HRb.out nB hsA;have HEn:Hid (∀v2:World,RunIn v2 pB alB clB Z->Bw w v2->oM w plain pick Z (.returned (.agg (aG pB alB clB plain pick Z))) (v2.setCells (w.heap.size+1) 0 (aG pB alB clB plain pick Z).toList)):=fun v2 hI hn=>xp hI (fun q hq=>(hPB q hq).1) (fun q hq=>(hLB' q hq).1) hn _;obtain ⟨E,hE⟩:∃E,aG pB alB clB plain pick Z=E:=⟨_,rfl⟩;rw [hE] at hR1 HR1o e23 e24 eK HEh HEn |-;clear hE hFB hLB;have HSa:Hid _:=aR (P:=Tryz.prog) (T:=54) (V:=E) J0 (by rw [hR1];exact dq) (by rw [hR1,hRa]) HR1o.out;have HC3:Hid _:=aI (V:=E) J0 (by rw [hR1,hRa]);have gC:=aH rb E.toList 0 vB vB (ao vB _);have nC:=aK (show w.heap.size<=rb by omega) E.toList 0 vB (bst nA nB);have HCh:Hid _:=aA (ae HHb.out nB (by omega)) gC (show w.heap.size≠rb by omega);have HCk:Hid _:=aA (ae HKb.out nB (by omega)) gC (show w.heap.size+1≠rb by omega);have HIC:Hid (RunIn (vB.setCells rb 0 E.toList) pB alB clB Z):=hIB.gb gC (fun q hq=>(hPB q hq).2) (fun q hq=>(hLB' q hq).2);have hsC:rb<(vB.setCells rb 0 E.toList).heap.size:=by rw [cF];exact ltl hsA nB.size
 go_upto_region 5 with ((with_reducible refine az ?_ ?_ HSa.out ?_);(exact rfl);(exact rfl));generalize vB.setCells rb 0 E.toList=vC at HC3 nC HCh HCk HIC hsC |-;clear HSa gC nA nB HRb HHb HKb HIA HBd HLr J0 hIB hPB hLB' HPA hsA;have c23:=ab HC3.out 23 e23;by_cases hz0:Z.cause=0
 ·have HXe:Hid (X=Z):=by show _=_;rw [HXz.out,kX,if_pos hz0]
  rw [hz0] at c23;have HLd:Hid _:=aW (P:=Tryz.prog) (T:=54) HC3.out Tryz.underlying54 rfl (by rw [hR1];exact dq);have HSr:Hid _:=aR (P:=Tryz.prog) (T:=54) (V:=E) HCk.out (by rw [hR1];exact dq) (by rw [hR1,aS]) HR1o.out;have e1:=aI (V:=E) HCk.out (by rw [hR1,aS]);go_upto_region 6 with fail;go_wp2_with (first
   | ((with_reducible refine bj ?_ HLd.out ?_);(exact rfl))
   | ((with_reducible refine az ?_ ?_ HSr.out ?_);(exact rfl);(exact rfl)))
  rw [<-HQ.out];refine dE (b:=w.heap.size+1) Tryz.results14 rfl (bC (P:=Tryz.prog) e1 Tryz.underlying54 rfl (by rw [hR1];exact dq)) rfl ?_;rw [HXe.out];exact HEn.out vC HIC.out nC
 ·have HXe:Hid (X=bA Z (dm h Z)):=by show _=_;rw [HXz.out,kX,if_neg hz0]
  have HLh:Hid _:=aW (P:=Tryz.prog) (T:=44) HCh.out Tryz.underlying44 rfl (by rw [hhs];exact fy);obtain ⟨zc,hzc⟩:∃zc,Z.cause=zc:=⟨_,rfl⟩;have HZc:Hid (Z.cause=zc):=hzc;rw [hzc] at c23 e23 hz0;clear hzc;go_upto_region 7 with fail;go_wp2_with ((with_reducible refine bj ?_ HLh.out ?_);(exact rfl));refine (HCp0.out vC (HI.out.keep nC)).mono ?_;rintro e vD ⟨⟨pq,rfl,hI2,hP2⟩,nD⟩;have a5:=bF vD fw 44;have hH0:=et pq h;have HH0o:Hid _:=gF pq h;have HS5:Hid _:=aR (P:=Tryz.prog) (T:=44) (V:=ak pq h) a5.1 (by rw [hH0];exact fy) (by rw [hH0,eN]) HH0o.out;have HT5:Hid _:=aI (V:=ak pq h) a5.1 (by rw [hH0,eN]);have n5:=aK (Nat.le_refl vD.heap.size) (ak pq h).toList 0 _ a5.2.2;have s5:((vD.alloc (Obj.cells fw 44)).setCells vD.heap.size 0 (ak pq h).toList).heap.size=vD.heap.size+1:=by rw [cF,a5.2.1]
  have hob:vC.heap.size<=vD.heap.size:=nD.size;clear a5 HLh;go_upto_region 8 with ((with_reducible refine az ?_ ?_ HS5.out ?_);(exact rfl);(exact rfl));have nCE:=bst nD n5;have HE3:Hid _:=ae HC3.out nCE hsC;have HEh2:Hid _:=ae HCh.out nCE (by omega);have HEk:Hid _:=ae HCk.out nCE (by omega);have HIE:Hid _:=HIC.out.keep nCE;have HHE:Hid (HartIn ((vD.alloc (Obj.cells fw 44)).setCells vD.heap.size 0 (ak pq h).toList) pq h):=hI2.keep n5;have nE:=bst nC nCE;have HPq:Hid (∀q,some q∈be pq->vC.heap.size<=q.block∧q.block<vD.heap.size):=fun q hq=>⟨hP2 q hq,hI2.low q hq⟩;have HPb:Hid (∀q,some q∈be pB->q.block<vC.heap.size):=HIC.out.h.low;have HLb:Hid (∀q,alB=some q->q.block<vC.heap.size):=HIC.out.low;generalize (vD.alloc (Obj.cells fw 44)).setCells vD.heap.size 0 (ak pq h).toList=vE at HT5 s5 HE3 HEh2 HEk HIE HHE nE |-;generalize vD.heap.size=ob at HT5 s5 hob HPq |-;clear HS5 n5 nD nCE hI2 hP2 HC3 HCh HCk HIC nC;have hobE:ob<vE.heap.size:=by omega
  have hob1:ob≠w.heap.size:=by omega
  have hob2:ob≠rb:=by omega
  have hrbE:rb<vE.heap.size:=by omega
  have hwE:w.heap.size<vE.heap.size:=by omega
  have hkz:(kA pB Z.h.k).size=9:=rfl;have HLk:Hid _:=eA (P:=Tryz.prog) (T:=42) HE3.out Tryz.underlying42 rfl (o:=12) (kA pB Z.h.k).toList kI eK (by rw [Array.length_toList];rfl);simp only [Array.toArray_toList] at HLk;have HSk:Hid _:=fq (P:=Tryz.prog) (T:=42) HT5.out (o:=12) (V:=kA pB Z.h.k) (by rw [hkz];exact kI) (by rw [hkz,hH0];omega) (CQ _ _);have HJ:Hid _:=dn ob (kA pB Z.h.k).toList 12 vE _ _ _ HT5.out (by rw [hH0];show 12+9<=21;omega);rw [tV] at HJ;have g6:=aH ob (kA pB Z.h.k).toList 12 vE vE (ao vE _);have n6:=aK (show w.heap.size<=ob by omega) (kA pB Z.h.k).toList 12 vE nE;have HK3:Hid _:=aA HE3.out g6 (Ne.symm hob2);have HKh:Hid _:=aA HEh2.out g6 (Ne.symm hob1);have HKk:Hid _:=aA HEk.out g6 (show w.heap.size+1≠ob by omega);have HIK:Hid _:=HIE.out.gb g6 (fun q hq=>by have:=HPb.out q hq;omega) (fun q hq=>by have:=HLb.out q hq;omega);have HHK:Hid _:=HHE.out.gb g6 (fun q hq=>by have:=HPq.out q hq;omega);have s6:(vE.setCells ob 12 (kA pB Z.h.k).toList).heap.size=vE.heap.size:=by rw [cF]
  generalize kA pB Z.h.k=KB at HLk HSk HJ g6 n6 HK3 HKh HKk HIK HHK s6;go_upto_region 9 with (first
   | ((with_reducible refine bj ?_ HLk.out ?_);(exact rfl))
   | ((with_reducible refine az ?_ ?_ HSk.out ?_);(exact rfl);(exact rfl)))
  generalize vE.setCells ob 12 KB.toList=vF at HJ n6 HK3 HKh HKk HIK HHK s6 |-;clear HLk HSk g6 HT5 HE3 HEh2 HEk HIE HHE nE c23;have hobF:ob<vF.heap.size:=by omega
  have hrbF:rb<vF.heap.size:=by omega
  have hwF:w.heap.size<vF.heap.size:=by omega
  have c23:=ab HK3.out 23 e23;have c24:=ab HK3.out 24 e24;have k2:=ab HKh.out 2 d2;have k3:=ab HKh.out 3 d3;have k7:=ab HKh.out 7 d7;have o8:=ab HJ.out 8 (show (ak (pK pq pB.a1 pB.c1 pB.a2 pB.c2 pB.a3 pB.c3) (withK h Z.h.k))[8]?=some _ from rfl);have o9:=ab HJ.out 9 (show (ak (pK pq pB.a1 pB.c1 pB.a2 pB.c2 pB.a3 pB.c3) (withK h Z.h.k))[9]?=some _ from rfl);have o10:=ab HJ.out 10 (show (ak (pK pq pB.a1 pB.c1 pB.a2 pB.c2 pB.a3 pB.c3) (withK h Z.h.k))[10]?=some _ from rfl);have o11:=ab HJ.out 11 (show (ak (pK pq pB.a1 pB.c1 pB.a2 pB.c2 pB.a3 pB.c3) (withK h Z.h.k))[11]?=some _ from rfl);have o3:=ab HJ.out 3 (show (ak (pK pq pB.a1 pB.c1 pB.a2 pB.c2 pB.a3 pB.c3) (withK h Z.h.k))[3]?=some _ from rfl);have o2:=ab HJ.out 2 (show (ak (pK pq pB.a1 pB.c1 pB.a2 pB.c2 pB.a3 pB.c3) (withK h Z.h.k))[2]?=some _ from rfl);have w8:=ap HJ.out 8;have w9:=ap HJ.out 9;have w10:=ap HJ.out 10;have w11:=ap HJ.out 11;have w3:=ap HJ.out 3;have w2:=ap HJ.out 2;obtain ⟨zt,hzt⟩:∃zt,Z.tval=zt:=⟨_,rfl⟩;have HZt:Hid (Z.tval=zt):=hzt;rw [hzt] at c24;clear hzt;go_upto_region 15 with fail;have HB6:Hid (((((((vF.setCell (AD ob 8) (VU h.pc)).setCell (AD ob 9) (VI h.mode)).setCell (AD ob 10) (VI zc)).setCell (AD ob 11) (VU zt)).setCell (AD ob 3) (VI 2)).setCell (AD ob 2) (VU h.tvec)).heap[ob]?=some (.cells (ak (pK pq pB.a1 pB.c1 pB.a2 pB.c2 pB.a3 pB.c3) (dm h Z)) 44 (0,0))):=by
   rw [<-HZc.out,<-HZt.out];exact cf (cf (cf (cf (cf (cf HJ.out 8 _) 9 _) 10 _) 11 _) 3 _) 2 _
  have g7:=au (au (au (au (au (au (ao vF (some ob)) 8 (VU h.pc)) 9 (VI h.mode)) 10 (VI zc)) 11 (VU zt)) 3 (VI 2)) 2 (VU h.tvec);have hwo:w.heap.size<=ob:=by omega
  have n7:=cH (cH (cH (cH (cH (cH n6 hwo 8 (VU h.pc)) hwo 9 (VI h.mode)) hwo 10 (VI zc)) hwo 11 (VU zt)) hwo 3 (VI 2)) hwo 2 (VU h.tvec);clear c23 c24 k2 k3 k7 o8 o9 o10 o11 o3 o2 w8 w9 w10 w11 w3 w2;generalize ((((((vF.setCell (AD ob 8) (VU h.pc)).setCell (AD ob 9) (VI h.mode)).setCell (AD ob 10) (VI zc)).setCell (AD ob 11) (VU zt)).setCell (AD ob 3) (VI 2)).setCell (AD ob 2) (VU h.tvec))=v7 at HB6 g7 n7 |-;have HM3:Hid _:=aA HK3.out g7 (Ne.symm hob2);have HMk:Hid _:=aA HKk.out g7 (show w.heap.size+1≠ob by omega);have HIM:Hid _:=HIK.out.gb g7 (fun q hq=>by have:=HPb.out q hq;omega) (fun q hq=>by have:=HLb.out q hq;omega);have HHM:Hid _:=HHK.out.gb g7 (fun q hq=>by have:=HPq.out q hq;omega);clear HJ HK3 HKh HKk HIK HHK n6 g7;have hH7:=et (pK pq pB.a1 pB.c1 pB.a2 pB.c2 pB.a3 pB.c3) (dm h Z);have HL7:Hid _:=aW (P:=Tryz.prog) (T:=44) HB6.out Tryz.underlying44 rfl (by rw [hH7];exact fy);have HS7:Hid _:=fq (P:=Tryz.prog) (T:=44) HM3.out (o:=0) (V:=ak (pK pq pB.a1 pB.c1 pB.a2 pB.c2 pB.a3 pB.c3) (dm h Z)) (by rw [hH7];exact fy) (by rw [hH7,hR1];omega) (gF _ _);have HJ8:Hid _:=dn rb (ak (pK pq pB.a1 pB.c1 pB.a2 pB.c2 pB.a3 pB.c3) (dm h Z)).toList 0 v7 _ _ _ HM3.out (by rw [Array.length_toList,hH7,hR1];omega);rw [HEh.out] at HJ8;have g8:=aH rb (ak (pK pq pB.a1 pB.c1 pB.a2 pB.c2 pB.a3 pB.c3) (dm h Z)).toList 0 v7 v7 (ao v7 _);have n8:=aK (show w.heap.size<=rb by omega) (ak (pK pq pB.a1 pB.c1 pB.a2 pB.c2 pB.a3 pB.c3) (dm h Z)).toList 0 v7 n7;have HNk:Hid _:=aA HMk.out g8 (show w.heap.size+1≠rb by omega);have hQ2:∀q,some q∈be (pK pq pB.a1 pB.c1 pB.a2 pB.c2 pB.a3 pB.c3)->w.heap.size+2<=q.block∧q.block≠rb:=fun q hq=>by
   simp only [be,pK,List.mem_cons,List.not_mem_nil,or_false] at hq;rcases hq with hq | hq | hq | hq | hq
   ·have:=HPq.out q (by simp [be,hq]);omega
   ·have:=HPq.out q (by simp [be,hq]);omega
   ·exact HPB.out q (by simp [be,hq])
   ·exact HPB.out q (by simp [be,hq])
   ·exact HPB.out q (by simp [be,hq])
  have kr:=HIM.out.gb g8 (fun q hq=>(HPB.out q hq).2) (fun q hq=>(HLB.out q hq).2);have kh:=HHM.out.gb g8 (fun q hq=>by have:=HPq.out q hq;omega);have hIf:RunIn (v7.setCells rb 0 (ak (pK pq pB.a1 pB.c1 pB.a2 pB.c2 pB.a3 pB.c3) (dm h Z)).toList) (pK pq pB.a1 pB.c1 pB.a2 pB.c2 pB.a3 pB.c3) alB clB (bA Z (dm h Z)):=by
   refine ⟨⟨kh.mem,kh.memc,kh.regs,kh.regc,kh.rega,kr.h.ks,fun q hq=>?_⟩,kr.looks,kr.lookc,kr.looka,kr.lookl,kr.low⟩;simp only [be,pK,List.mem_cons,List.not_mem_nil,or_false] at hq;rcases hq with hq | hq | hq | hq | hq
   ·exact kh.low q (by simp [be,hq])
   ·exact kh.low q (by simp [be,hq])
   ·exact kr.h.low q (by simp [be,hq])
   ·exact kr.h.low q (by simp [be,hq])
   ·exact kr.h.low q (by simp [be,hq])
  have HFn:Hid _:=xp (plain:=plain) (pick:=pick) hIf (fun q hq=>(hQ2 q hq).1) (fun q hq=>(HLB.out q hq).1) n8 (aG (pK pq pB.a1 pB.c1 pB.a2 pB.c2 pB.a3 pB.c3) alB clB plain pick (bA Z (dm h Z))).toList;have hR2:=bP (pK pq pB.a1 pB.c1 pB.a2 pB.c2 pB.a3 pB.c3) alB clB plain pick (bA Z (dm h Z));have HR2o:Hid _:=dM (pK pq pB.a1 pB.c1 pB.a2 pB.c2 pB.a3 pB.c3) alB clB plain pick (bA Z (dm h Z));clear kr kh hIf g8 hQ2 n7;generalize ak (pK pq pB.a1 pB.c1 pB.a2 pB.c2 pB.a3 pB.c3) (dm h Z)=HT at HL7 HS7 HJ8 n8 HNk HFn hH7;generalize aG (pK pq pB.a1 pB.c1 pB.a2 pB.c2 pB.a3 pB.c3) alB clB plain pick (bA Z (dm h Z))=E2 at HJ8 HFn hR2 HR2o;go_upto_region 16 with (first
   | ((with_reducible refine bj ?_ HL7.out ?_);(exact rfl))
   | ((with_reducible refine az ?_ ?_ HS7.out ?_);(exact rfl);(exact rfl)))
  generalize v7.setCells rb 0 HT.toList=v8 at HJ8 n8 HNk HFn |-;have HLd:Hid _:=aW (P:=Tryz.prog) (T:=54) HJ8.out Tryz.underlying54 rfl (by rw [hR2];exact dq);have HSr:Hid _:=aR (P:=Tryz.prog) (T:=54) (V:=E2) HNk.out (by rw [hR2];exact dq) (by rw [hR2,aS]) HR2o.out;have e1:=aI (V:=E2) HNk.out (by rw [hR2,aS]);go_wp2_with (first
   | ((with_reducible refine bj ?_ HLd.out ?_);(exact rfl))
   | ((with_reducible refine az ?_ ?_ HSr.out ?_);(exact rfl);(exact rfl)))
  rw [<-HQ.out];refine dE (b:=w.heap.size+1) Tryz.results14 rfl (bC (P:=Tryz.prog) e1 Tryz.underlying54 rfl (by rw [hR2];exact dq)) rfl ?_;rw [HXe.out];exact HFn.out
end
end Go.Proofs.YthdgiakgepmabaaGreat
