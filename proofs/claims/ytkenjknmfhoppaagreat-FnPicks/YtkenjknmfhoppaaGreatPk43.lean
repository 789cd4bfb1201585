import Derived.Test.YtkenjknmfhoppaaGreatPk24
import Derived.Test.YtkenjknmfhoppaaGreatPk42
namespace Go.Proofs.YtkenjknmfhoppaaGreat
open Go.RowKit
set_option linter.unusedVariables false
set_option maxHeartbeats 6400000
set_option maxRecDepth 20000
section
open Go.RowKit Go.Maps
attribute [local go_sem ↓] Go.wp_at_zero Go.wp_at_succ
structure DisP (w wr:World) (B sb:Nat) (S:Array Value) (m:MP) (wb mb base:Nat) (pa:Option Addr) (pc:Nat) (ps:List Int) (i:Nat) (O:Nat->Prop) (ov:Value) (ol:List (Nat × Int)) (h:HartM) (gs:List ay):Prop where
 n:Bw w wr
 h2:wr.heap[w.heap.size]?=some (.cells #[.bool false,VI 0] 24 (0,0))
 pk:wr.ownsRow w.heap.size 2 1 (.slice pa ps.length pc) ps.length (cU ps)
 pl:∀g,(Value.slice pa ps.length pc).ownBlock=some g->g<B
 mw:MW wr O (wX m wb mb) m ov h ol
 pi:wI m wb mb base gs (9*i) h.k wr
 ok:HOk h
 ob:∀i,O i->B<=i
 sc:wr.heap[sb]?=some (.cells S 46 (0,0))
 sl:sb<B
theorem DisP.low {w wr v:World} {B sb:Nat} {S:Array Value} {m:MP} {wb mb base:Nat} {pa:Option Addr} {pc:Nat} {ps:List Int} {i:Nat} {O:Nat->Prop} {ov:Value} {ol:List (Nat × Int)} {h:HartM} {gs:List ay} (k:DisP w wr B sb S m wb mb base pa pc ps i O ov ol h gs) (hb:Bw wr v):DisP w v B sb S m wb mb base pa pc ps i O ov ol h gs:=by
 obtain ⟨r,gm,a,g⟩:=k.pi;exact ⟨bst k.n hb,ae k.h2 hb (hpl k.h2),aq k.pk hb,k.pl,k.mw.low hb,⟨jE (m:=m) r hb,gm,⟨ae a.1 hb (hpl a.1),a.2.keep hb⟩,g⟩,k.ok,k.ob,ae k.sc hb (hpl k.sc),k.sl⟩
theorem DisP.step {w wr v:World} {B sb:Nat} {S:Array Value} {m:MP} {wb mb base:Nat} {pa:Option Addr} {pc:Nat} {ps:List Int} {i:Nat} {O O':Nat->Prop} {ov ov':Value} {ol ol':List (Nat × Int)} {h:HartM} {gs:List ay} {y:Int} (k:DisP w wr B sb S m wb mb base pa pc ps i O ov ol h gs) (hy:0<=y∧y<=255) (hB:w.heap.size<B) (hBw:B<=wr.heap.size)
 (kw:MW v O' (wX m wb mb) m ov' (bT true y h).h ol') (kp:Kp O wr v) (hO:∀i,i<wr.heap.size->O' i->O i) (hA:wA m wb mb base h gs (9*i) v (bT true y h)):
 ∃c,v.heap[wb]?=some (.cells (wtA mb c) 74 (0,0))∧((be h (bT true y h).looks gs).1=true->c=false∧DisP w v B sb S m wb mb base pa pc ps (i+1) O' ov' ol' (bT true y h).h (eu (bT true y h) (be h (bT true y h).looks gs).2))∧((be h (bT true y h).looks gs).1=false->c=true)∧Bw w v∧v.heap[w.heap.size]?=some (.cells #[.bool false,VI 0] 24 (0,0)):=by
 obtain ⟨r,c,gm,a,j1,j2⟩:=hA;have n:=kp.below k.n k.n.size (fun i hi=>by have:=k.ob i hi;omega);have h2:=kp.heap k.h2 (fun hh=>by have:=k.ob _ hh;omega);refine ⟨c,a.1,fun hj=>?_,j2,n,h2⟩;obtain ⟨hc,R⟩:=j1 hj;have hl:=tH true y h;refine ⟨hc,n,h2,kp.own k.pk (fun g e hh=>by have:=k.ob g hh;have:=k.pl g e;omega),k.pl,kw,⟨r,gm,⟨by rw [<-hc];exact a.1,a.2.mono (by omega)⟩,R⟩,(mt true hy k.ok).h,fun j hj=>?_,kp.heap k.sc (fun hh=>by have:=k.ob _ hh;have:=k.sl;omega),k.sl⟩;by_cases hlt:j<wr.heap.size
 ·exact k.ob j (hO j hlt hj)
 ·omega
theorem GB {w w':World} {O X X':Nat->Prop} {m:MP} {ov:Value} {h:HartM} {ol:List (Nat × Int)} (k:MW w O X m ov h ol) (pd:TypeId) (px:Value) (hg:w.grownBy w' (some m.b)) (hb:w'.heap[m.b]?=some (.cells (cV h m.gm ov m.gi m.gd m.gp (.iface pd px)) 97 (0,0)))
 (hov:ov.ownBlock=none) (xb:¬X' m.b) (xm:¬X' m.gm) (hX:∀i,X' i->i<w.heap.size):MW w' (fun i=>O i∨X' i) X' ⟨m.b,m.gm,m.gi,m.gd,m.gp,pd,px⟩ ov h ol:=by
 have hk:Kp (fun i=>i=m.b) w w':=Kp.of_gb hg rfl;exact ⟨hb,hk.blk k.mem (Ne.symm k.bm),hk.own k.old (fun g e=>by rw [hov] at e;cases e),.inl k.ob,.inl k.om,fun g e=>(by rw [hov] at e;cases e),k.bm,xb,xm,fun i hi=>⟨.inr hi,ltl (hX i hi) hg.size⟩,k.byt,k.len,k.regs,k.oll,k.sh,
  fun i hi=>hi.elim (fun hi=>ltl (k.obd i hi) hg.size) (fun hi=>ltl (hX i hi) hg.size),k.oln⟩
theorem CX (v:World):∃v3,Hid ((v.alloc (.map #[] 0)).alloc (.cells #[.map (some v.heap.size),.bool false] 74)=v3)∧Hid (WAt v3 (v.heap.size+1) v.heap.size 0 false [])∧Bw v v3∧v.heap.size+1<v3.heap.size:=by
 have a:=bX (v.alloc (.map #[] 0)) #[.map (some v.heap.size),.bool false] 74;have e:(v.alloc (.map #[] 0)).heap.size=v.heap.size+1:=by simp
 rw [e] at a;exact ⟨_,rfl,⟨a.1,(GMap.made v).keep a.2.2⟩,bst ((brf).alloc nle _) a.2.2,by omega⟩
theorem GC {w:World} {base gi gd gp gm:Nat} {k:KM} {zs:List Int} (h:RowsAt w base gi gd gp k) (hm:Blk 5 w gm zs):gm≠gi∧gm≠gd∧gm≠gp:=
 ⟨fun e=>cC h.1 hm (by decide) (by rw [e];rfl),fun e=>cC h.2.1 hm (by decide) (by rw [e];rfl),fun e=>cC h.2.2.1 hm (by decide) (by rw [e];rfl)⟩
theorem ym (a:Option Addr) (len cap:Nat) (zs:List Int) (w:World) (hB:Byt w a len zs) (hl:len<=16777216):
 Calls Tryz.prog 9 #[.slice a len cap] w fun e w'=>e=.returned (.agg #[.bool (jV (bq zs) (aI zs) [] 0).1,VI ((jV (bq zs) (aI zs) [] 0).2:Int)])∧Bw w w':=by
 have hok:=la hB.2.1;have pl:=qZ zs;have PB:=hid (jO hB.2.1);have CS:Hid (∀u,Bw w u->Calls Tryz.prog 14 #[.slice a len cap] u fun e v=>(∃p pa pc,e=.returned (.agg (cF p pa pc (aI zs) (bq zs)))∧HartIn v p (aI zs)∧v.ownsRow u.heap.size 2 1 (.slice pa (bq zs).length pc) (bq zs).length (cU (bq zs)))∧Bw u v):=fun u hu=>(mC a len cap zs u (hB.keep hu) hl).mono fun e v d=>by
  obtain ⟨⟨p,pa,pc,he,o⟩,n⟩:=d.own;exact ⟨⟨p,pa,pc,he,o.hart.hin hok.mem hok.ks,o.pick⟩,n⟩
 have hml:(aI zs).mem.length<=1048576:=by
  have:=hok.v.size;simp only [eR,decide_eq_true_eq] at this;omega
 have CM:=hid fun (p:PtrM) (u:World) (hu:HartIn u p (aI zs))=>qw true p _ u hu hml hok.satp.1 hok.satp.2 hok.tvec.1 hok;clear hB hl hml;generalize aI zs=h0 at *;generalize bq zs=ps at *;obtain ⟨⟨RB,RN⟩,hR⟩:∃R,jV ps h0 [] 0=R:=⟨_,rfl⟩;have HR:=hid hR;rw [hR];clear hR;have HOK:=hid hok;clear hok;obtain ⟨u0,Eu0,n0,H4,l4⟩:=al1 w #[.bool false,VI 0] 24;go_enter Tryz.func9,Tryz.ntmps9;go_upto_region 1 with fail;rw [Eu0.out];clear Eu0;go_wp2_with fail;refine (CS.out u0 n0).mono ?_;rintro e v1 ⟨⟨p,pa,pc,rfl,hi,op⟩,n1⟩;have HI:=hid hi;have OP:=hid (bW op n0.size);replace H4:=ah H4 n1;replace n0:=bst n0 n1;have s1:=n1.size;clear n1 hi op CS;obtain ⟨v2,hs2,P2,l2,n2⟩:=pV v1 (cF p pa pc h0 ps) rfl (iL _ _ _ _ _);have SH:=hid (qd p pa pc h0 ps);have SP:=hid (qf p pa pc h0 ps);have HS2:=hid hs2;generalize cF p pa pc h0 ps=S at *;have H5:=hid P2;replace H4:=ah H4 n2;replace n0:=bst n0 n2;replace HI:=hid (HI.out.keep n2);replace OP:=hid (aq OP.out n2);clear hs2 P2 n2;have hmm:=@run_makeMap Tryz.prog;go_upto_region 2 with (first | ((with_reducible refine ax ?_ ?_ HS2.out ?_);(exact rfl);(exact rfl)));clear HS2;obtain ⟨v3,Ev3,W3,n3,l3⟩:=CX v2;go_upto_region 3 with fail;rw [Ev3.out];clear Ev3 hmm;have H53:=ah H5 n3;have J5:=hid (ez (P:=Tryz.prog) (T:=43) H53.out Tryz.underlying43 rfl (o:=0) (aj p h0).toList fm SH.out rfl);rw [show (aj p h0).toList.toArray=aj p h0 from rfl] at J5;have CM2:=hid (CM.out p v3 (HI.out.keep n3));obtain ⟨A0,hA0⟩:∃A,aj p h0=A:=⟨_,rfl⟩;rw [hA0] at J5 CM2;clear hA0 CM;go_wp2_with (first | ((with_reducible refine aZ ?_ J5.out ?_);(exact rfl)));clear J5;refine Calls.mono CM2.out ?_;rintro e v4 ⟨⟨m,O,X,PI,PA,base,rfl,kw,hP,hI,hO,hbs,hgi,hgd,hgp⟩,n4⟩;have R4:=hid (hP.rows h0.k v4 hI);have KW:=hid kw;have lmb:=hO m.b kw.ob;have lgm:=hO m.gm kw.om;have LO:=hid hO;have c29:=ab kw.blk 29 (v:=m.pv) rfl;have f29:=ap kw.blk 29;obtain ⟨mb,hmb⟩:∃mb,m.b=mb:=⟨_,rfl⟩;have HMb:=hid hmb;rw [hmb] at c29 f29 lmb;rw [hmb];clear hmb kw hP hI hO CM2;go_upto_region 5 with fail;have g5:=au (ak v4 (some mb)) 29 (.iface 68 (PT (v2.heap.size+1) 0));have hd:=R4.out;have di:=(db hd.1).2;have dd:=(db hd.2.1).2;have dp:=(db hd.2.2.1).2;simp only at di dd dp;have s4:=n4.size;have B5:Hid ((v4.setCell (AD mb 29) (.iface 68 (PT (v2.heap.size+1) 0))).heap[mb]?=some (.cells (cV h0 m.gm SN m.gi m.gd m.gp (.iface 68 (PT (v2.heap.size+1) 0))) 97 (0,0))):=by
  have:=bB (i:=29) (v:=.iface 68 (PT (v2.heap.size+1) 0)) KW.out.blk;rw [HMb.out] at this;exact this
 generalize v4.setCell (AD mb 29) (.iface 68 (PT (v2.heap.size+1) 0))=v5 at g5 B5 |-;obtain ⟨m',hm'⟩:∃m':MP,(⟨mb,m.gm,m.gi,m.gd,m.gp,68,PT (v2.heap.size+1) 0⟩:MP)=m':=⟨_,rfl⟩;have nG:=GC R4.out KW.out.mem;have hgi':mb≠m.gi:=HMb.out ▸ hgi;have hgd':mb≠m.gd:=HMb.out ▸ hgd;have hgp':mb≠m.gp:=HMb.out ▸ hgp;have WD:Hid (WDist m' (v2.heap.size+1) v2.heap.size):=by
  show WDist _ _ _;rw [<-hm'];exact ⟨rfl,rfl,by simp only;omega,by simp only;omega,by simp only;omega,by simp only;omega,by simp only;omega,by simp only;omega⟩
 have hx:∀i,wX m' (v2.heap.size+1) v2.heap.size i->i<v4.heap.size∧v2.heap.size<=i∧i≠mb∧i≠m.gm:=by
  rw [<-hm'];rintro i (rfl | rfl | rfl | rfl | rfl)
  ·exact ⟨di.2,by simp only;omega,Ne.symm hgi',Ne.symm nG.1⟩
  ·exact ⟨dd.2,by simp only;omega,Ne.symm hgd',Ne.symm nG.2.1⟩
  ·exact ⟨dp.2,by simp only;omega,Ne.symm hgp',Ne.symm nG.2.2⟩
  ·exact ⟨by omega,by omega,by omega,by omega⟩
  ·exact ⟨by omega,by omega,by omega,by omega⟩
 have K5:Hid (MW v5 (fun i=>O i∨wX m' (v2.heap.size+1) v2.heap.size i) (wX m' (v2.heap.size+1) v2.heap.size) m' SN h0 []):=by
  show MW _ _ _ _ _ _ _;have:=GB (X':=wX m' (v2.heap.size+1) v2.heap.size) KW.out 68 (PT (v2.heap.size+1) 0) (w':=v5) (by rw [HMb.out];exact g5) (by rw [HMb.out];exact B5.out) rfl (fun h=>(hx _ h).2.2.1 HMb.out) (fun h=>(hx _ h).2.2.2 rfl) (fun i hi=>(hx i hi).1);rw [HMb.out,hm'] at this;exact this
 have WI:Hid (wI m' (v2.heap.size+1) v2.heap.size base [] 0 h0.k v5):=by
  show wI _ _ _ _ _ _ _ _;have hk:Kp (fun i=>i=mb) v4 v5:=Kp.of_gb g5 rfl;refine ⟨?_,[],⟨hk.heap (ae W3.out.1 n4 (by omega)) (by omega),((W3.out.2.keep n4)).same (hk.block _ (by omega) (by omega))⟩,EO⟩;rw [<-hm'];exact hk.rows R4.out (fun e=>hgi' e.symm) (fun e=>hgd' e.symm) (fun e=>hgp' e.symm)
 have N5:Bw w v5:=Below.gb (bst n0 (bst n3 n4)) g5 (by have:=n0.size;omega) (by have:=KW.out.lt;rw [HMb.out] at this;exact this);have K0:Hid (DisP w v5 v2.heap.size v1.heap.size S m' (v2.heap.size+1) v2.heap.size base pa pc ps 0 (fun i=>O i∨wX m' (v2.heap.size+1) v2.heap.size i) SN [] h0 []):=
  ⟨N5,aA (ah H4 (bst n3 n4)).out g5 (by omega),(Kp.of_gb (O:=fun i=>i=mb) g5 rfl).own (aq OP.out (bst n3 n4)) (fun g e he=>by have:=(OP.out.lt g e).2;omega),fun g e=>(OP.out.lt g e).2,K5.out,WI.out,HOK.out,fun i hi=>hi.elim (fun hi=>by have:=LO.out i hi;omega) (fun hi=>(hx i hi).2.1),aA (ah H53 n4).out g5 (by omega),by omega⟩
 have c21:=ab (aA (ah H53 n4).out g5 (by omega)) 21 SP.out;have b24:w.heap.size<v2.heap.size:=by omega
 have b25:v2.heap.size<=v5.heap.size:=by have:=g5.size;omega
 have lmb5:mb<v5.heap.size:=hpl B5.out;have HEm:Hid (m'.b=mb):=by show _=_;rw [<-hm']
 have HX:=hid hx;clear hx hm' WI K5 nG di dd dp hd hgi hgd hgp hgi' hgd' hgp' g5 B5 N5 H4 H5 H53 OP KW R4 W3 LO HI lgm c29 f29;generalize v2.heap.size=BB at *;go_wp2;go_loopw [28] (fun ii wr=>∃(i:Nat) (O:Nat->Prop) (ov:Value) (ol:List (Nat × Int)) (h:HartM) (gs:List ay),i<=ps.length∧ii=VI i∧DisP w wr BB v1.heap.size S m' (BB+1) BB base pa pc ps i O ov ol h gs∧BB<=wr.heap.size∧jV (ps.drop i) h gs i=(RB,RN)) (fun ii _=>ps.length-(intOf ii).toNat)
 case atStart=>exact ⟨0,_,_,[],h0,[],Nat.zero_le _,rfl,K0.out,b25,by rw [List.drop_zero];exact HR.out⟩
 case round=>
 rename World=>wr;obtain ⟨i,O',ov,ol,h,gs,hi,rfl,k,hbw,hr⟩:=hrel;clear K0 HR c21;have HK:=hid k;have HRR:=hid hr;clear k hr;have hd2:=HK.out.h2;have d0:=ab hd2 0 (v:=.bool false) rfl;have d1:=ab hd2 1 (v:=VI 0) rfl;have e0:=ap hd2 0;have e1:=ap hd2 1;clear hd2;by_cases hlt:i<ps.length
 ·have hlt':decide ((i:Int)<(ps.length:Int))=true:=by simp;omega
  obtain ⟨y,hy⟩:∃y,ps[i]=y:=⟨_,rfl⟩;have by':0<=y∧y<=255:=by rw [<-hy];exact PB.out _ (List.getElem_mem hlt)
  have HDr:=hid (zh ps i hlt h gs);rw [hy] at HDr;have pki:(cU ps)[i]?=some (VI y):=by
   rw [<-hy];simp [cU,geg hlt]
  obtain ⟨pg,hpg⟩:=kC HK.out.pk (by omega);subst hpg;have cpk:wr.cell? (AD pg i)=some (VI y):=by
   have:=aM HK.out.pk i _ pki;simpa using this
  have CSt:=hid (FK (wn m' (BB+1) BB base WD.out (by omega) ⟨by rw [HEm.out];omega,by rw [HEm.out];omega⟩ y h gs (9*i) (by omega)) by' wr HK.out.mw HK.out.pi HK.out.ok);rw [HEm.out] at CSt;clear pki hy;go_wp2_with fail;refine Calls.mono CSt.out ?_;rintro e v6 ⟨rfl,O2,ov2,ol2,kw,kp,hO2,hA⟩;obtain ⟨c,hc,hj1,hj2,n6,h6⟩:=HK.out.step by' b24 hbw kw kp hO2 hA;have HC:=hid hc;have H1:=hid hj1;have H2:=hid hj2;have cc:=ab hc 1 (v:=.bool c) rfl;have s6:=kp.size;clear kw kp hO2 hA CSt hc hj1 hj2 cpk d0 d1 e0 e1;have d0:=ab h6 0 (v:=.bool false) rfl;have d1:=ab h6 1 (v:=VI 0) rfl;have e0:=ap h6 0;have e1:=ap h6 1;clear h6;cases hJ:(be h (bT true y h).looks gs).1
  ·have hcc:=H2.out hJ;subst hcc;have hfin:(false,i)=(RB,RN):=by
    have q:=HDr.out;rw [hJ,if_neg (by simp)] at q;exact q.symm.trans HRR.out
   have HF:=hid hfin;clear H1 H2 HDr HRR hJ hfin;go_wp2_with fail;refine bodyPost_ret (v:=.agg #[.bool false,VI (i:Int)]) (by simp [results,Tryz.results9,go_sem,d0,d1]) rfl ⟨?_,bP (bP n6 nle _ _) nle _ _⟩;obtain ⟨rfl,rfl⟩:=Prod.mk.inj HF.out;rfl
  ·obtain ⟨hcc,kk⟩:=H1.out hJ;subst hcc;have hnx:jV (ps.drop (i+1)) (bT true y h).h (eu (bT true y h) (be h (bT true y h).looks gs).2) (i+1)=(RB,RN):=by
    have q:=HDr.out;rw [hJ,if_pos rfl] at q;exact q.symm.trans HRR.out
   have KK:=hid kk;have HN:=hid hnx;clear H1 H2 HDr HRR hJ hnx kk;go_wp2;go_roundw
   case rel=>exact ⟨i+1,_,_,_,_,_,by omega,by go_num,KK.out,by omega,HN.out⟩
   case measure=>simp [intOf];omega
 ·have hin:i=ps.length:=by omega
  subst hin;have hlt':decide ((ps.length:Int)<(ps.length:Int))=false:=by simp
  have hfin:(true,ps.length)=(RB,RN):=by
   have q:=HRR.out;rw [List.drop_length,jV] at q;exact q
  have HF:=hid hfin;clear HRR hfin;have c21:=ab HK.out.sc 21 SP.out;go_wp2_with fail;refine bodyPost_ret (v:=.agg #[.bool true,VI (ps.length:Int)]) (by simp [results,Tryz.results9,go_sem,d0,d1]) rfl ⟨?_,bP (bP HK.out.n nle _ _) nle _ _⟩;obtain ⟨rfl,rfl⟩:=Prod.mk.inj HF.out;rfl
end
end Go.Proofs.YtkenjknmfhoppaaGreat
