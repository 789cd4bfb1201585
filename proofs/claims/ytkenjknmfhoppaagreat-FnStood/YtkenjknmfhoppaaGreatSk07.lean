import Derived.Test.YtkenjknmfhoppaaGreatSk06
import Derived.Deep.DeepCutAuto
namespace Go.Proofs.YtkenjknmfhoppaaGreat
open Go.RowKit
set_option linter.unusedVariables false
set_option maxHeartbeats 6400000
set_option maxRecDepth 20000
section
attribute [local go_sem ↓] Go.wp_at_zero Go.wp_at_succ
theorem Tryz.infoEnt:(Tryz.prog.info? 127).map (fun i=>(i.zero,i.size,i.bytes))=some (some (.agg #[.bool false,VI 0,VU 0,VU 0,.bool false,VU 0]),6,48):=by kernel_rfl
theorem ql:∀es:List EntM,∀u∈aO es,u.oneCell'=true
 | [],u,h=>by simp [aO] at h
 | e::r,u,h=>by
  simp only [aO,List.mem_append] at h;rcases h with h | h
  ·simp [jV] at h;rcases h with rfl | rfl | rfl | rfl | rfl | rfl <;> rfl
  ·exact ql r u h
def TlbOwn (base:Nat) (w:World) (v:Value) (t:TlbM):Prop:=
 ∃g cap,v=.agg #[VI t.sets,VI t.ways,SL g t.es.length cap]∧w.ownsRow base 127 6 (SL g t.es.length cap) t.es.length (aO t.es)
theorem iE (v:Value) (t:TlbM) (w:World) (h:TlbAt w v t):
 Calls Tryz.prog 90 #[v] w fun e w'=>(∃x,e=.returned x∧TlbOwn w.heap.size w' x t)∧Bw w w':=by
 have HT:=hid h;obtain ⟨a,cap,rfl,hr,_,_,_,hl,hlc,hcm,hnil,hsp⟩:=h;obtain ⟨sets,ways,es⟩:=t;obtain ⟨n,hn⟩:∃n,es.length=n:=⟨_,rfl⟩;simp only at hr hl hlc hnil |-;rw [hn] at hr hl hlc hnil |-;obtain ⟨v1,Ev1,n1,H1,H2,l1⟩:=al2 w #[VI sets,VI ways,.slice a n cap] #[VI 0,VI 0,SN] 39 39;have HR1:=hid (hr.keep n1);have HN:=hid hnil;have HSp:=hid hsp;clear hr hnil hsp HT;go_enter Tryz.func90,Tryz.ntmps90;go_wp2_with fail;rw [Ev1.out];clear Ev1;obtain ⟨⟨c0,c1,c2⟩,_,_,_⟩:=aA H1.out;obtain ⟨⟨d0,d1,d2⟩,e0,e1,e2⟩:=aA H2.out;have ne1:v1.heap.size≠w.heap.size:=by omega
 have ne2:w.heap.size≠v1.heap.size:=by omega
 have ne3:v1.heap.size≠w.heap.size+1:=by omega
 have ne4:w.heap.size+1≠v1.heap.size:=by omega
 have n2:=((Below.refl v1.heap.size v1).alloc nle (Obj.cells #[] 127)).drew;go_region_held3 (fun w'=>w'.cell? (AD w.heap.size 0)=some (VI sets)∧w'.cell? (AD w.heap.size 1)=some (VI ways)∧w'.cell? (AD w.heap.size 2)=some (.slice a n cap)) (go_keep)
  (first
   | (refine nY _ (by rfl) (.tmp 7) (.tmp 9) 37 (by rfl) 127 Tryz.underlying37 (.agg #[.bool false,VI 0,VU 0,VU 0,.bool false,VU 0]) 6 48 Tryz.infoEnt (by rfl) (by decide) v1.heap.size v1.heap.size 0 0 [] (by rfl) (OwnC.new 127 6 v1.drew [] 0 (by rfl) (by decide)) a n cap (aO es) (by rfl) HN.out HSp.out (RowC.keep HR1.out n2) (ql es) (by omega) (by omega) v1.heap.size v1 n2 nle ?_;intro g3 c3 v3 o3 n3;have k1:=aA (ag H1.out n3 (by omega));have k2:=aA (ag H2.out n3 l1);obtain ⟨⟨q0,q1,q2⟩,_,_,_⟩:=k1;obtain ⟨⟨j0,j1,j2⟩,i0,i1,i2⟩:=k2;have l3:=n3.size;have O3:Hid (OwnC 127 6 v3 v1.heap.size g3 (0+n) c3 ([]++aO es)):=o3;clear o3))
 go_wp2_with fail;have O4:v3.ownsRow v1.heap.size 127 6 (SL g3 n c3) n (aO es):=by
  have:=O3.out;rw [Nat.zero_add,List.nil_append] at this;exact this
 refine bodyPost_ret (v:=.agg #[VI sets,VI ways,SL g3 n c3]) (by simp [results,Tryz.results90,go_sem,j0,j1,j2]) rfl ⟨⟨_,rfl,g3,c3,by rw [hn],?_⟩,gQ (bst n1 n3) (by omega) _ _ _⟩;rw [hn];exact aJ (aG O4 (gb3 v3 (w.heap.size+1) _ _ _) l1) (by omega)
theorem TlbOwn.row {base:Nat} {w:World} {v:Value} {t:TlbM} (h:TlbOwn base w v t):∃g cap,v=.agg #[VI t.sets,VI t.ways,SL g t.es.length cap]∧RowC w (some (AD g 0)) t.es.length 6 (aO t.es)∧base<=g∧g<w.heap.size:=by
 obtain ⟨g,cap,rfl,ho⟩:=h;have:=bI ho;exact ⟨g,cap,rfl,dM ho,this.2.1,this.2.2⟩
theorem TlbOwn.keep {base:Nat} {w w':World} {v:Value} {t:TlbM} (h:TlbOwn base w v t) (hb:Bw w w'):TlbOwn base w' v t:=by
 obtain ⟨g,cap,rfl,ho⟩:=h;exact ⟨g,cap,rfl,aj ho hb⟩
def fP (t:TlbM):Prop:=
 (∀e∈t.es,fq e)∧(-9223372036854775808<=t.sets∧t.sets<=9223372036854775807)∧(-9223372036854775808<=t.ways∧t.ways<=9223372036854775807)∧t.es.length<=1048576
theorem TlbAt.ok {w:World} {v:Value} {t:TlbM} (h:TlbAt w v t):fP t:=by
 obtain ⟨a,cap,_,_,h1,h2,h3,h4,_⟩:=h;exact ⟨h1,h2,h3,h4⟩
theorem TlbOwn.at {base:Nat} {w:World} {v:Value} {t:TlbM} (h:TlbOwn base w v t) (hk:fP t):TlbAt w v t:=by
 obtain ⟨g,cap,rfl,ho⟩:=h;have hr:=dM ho;rcases ho.2 with ⟨h2,_⟩ | ⟨g',cap',cur,h2,hb,hg,hc1,hc2,_⟩
 ·cases h2
 ·cases h2;exact ⟨some (AD g 0),cap,rfl,hr,hk.1,hk.2.1,hk.2.2.1,hk.2.2.2,hc1,by unfold maxLen at hc2;omega,(by intro h;cases h),(by intro q hq;cases hq;rfl)⟩
end
theorem rF (level va satp pte:Int) (hl:0<=level∧level<=2) (hp:0<=pte∧pte<=18446744073709551615):fq (eU level va satp pte):=by
 have ht:=te va level (by omega);refine ⟨⟨by simp only [eU];omega,by simp only [eU];omega⟩,⟨ht.1,?_⟩,?_,hp⟩
 ·simp only [eU];omega
 ·simp only [eU,aK];omega
theorem ut {t:TlbM} {e:EntM} (pick:Int) (ht:fP t) (he:fq e):fP (dg t e pick):=by
 obtain ⟨l1,l2,l3⟩:=fx t e pick;obtain ⟨h1,h2,h3,h4⟩:=ht;refine ⟨?_,by rw [l2];exact h2,by rw [l3];exact h3,by rw [l1];exact h4⟩;unfold dg;split
 ·intro x hx;simp only at hx;rcases List.mem_or_eq_of_mem_set hx with hx | rfl
  ·exact h1 x hx
  ·exact he
 ·exact h1
theorem vx (va satp pick:Int):∀(rs:List ef) (p:TlbM),fP p->(∀x∈rs,(0<=x.1∧x.1<=2)∧0<=x.2.2∧x.2.2<=18446744073709551615)->fP (cG va satp pick rs p)
 | [],p,h,_=>h
 | r::rs,p,h,hx=>by
  rw [cG];refine vx va satp pick rs _ ?_ fun x hx'=>hx x (List.mem_cons_of_mem _ hx');have hr:=hx r (List.mem_cons_self ..);split
  ·exact ut pick h (rF _ _ _ _ hr.1 hr.2)
  ·exact h
theorem Ba (va satp pick:Int) (rs:List ef) (p:TlbM) (j:Nat) (x:ef) (hx:rs[j]?=some x):
 cG va satp pick (rs.take (j+1)) p=if bH x.2.2 x.1=1 then dg (cG va satp pick (rs.take j) p) (eU x.1 va satp x.2.2) pick else cG va satp pick (rs.take j) p:=by
 have:rs.take (j+1)=rs.take j++[x]:=by
  rw [List.take_add_one,hx];rfl
 rw [this,jN];rfl
section
attribute [local go_sem ↓] Go.wp_at_zero Go.wp_at_succ
def vR (f:FenceM):Value:=.agg #[.bool f.hasVa,VU f.va,.bool f.hasAsid,VU f.asid]
theorem vS (f:FenceM) (level tag asid:Int) (glob:Bool) (w:World) (h0:0<=f.va) (h1:f.va<=18446744073709551615) (hl0:0<=level) (hl2:level<=2):
 Calls Tryz.prog 62 #[vR f,VI level,VU tag,VU asid,.bool glob] w fun e w'=>e=.returned (.bool (iM f level tag asid glob))∧Bw w w':=by
 obtain ⟨hv,va,ha,fa⟩:=f;simp only at h0 h1;unfold vR;simp only;have n1:=(Below.refl w.heap.size w).alloc nle (Obj.cells #[.bool hv,VU va,.bool ha,VU fa] 59);obtain ⟨cn,hcn⟩:∃cn,dC va=cn:=⟨_,rfl⟩;obtain ⟨tv,htv⟩:∃tv,gx va level=tv:=⟨_,rfl⟩;have HC:Hid (∀w:World,Calls Tryz.prog 55 #[VU va] w fun e w'=>e=.returned (.bool cn)∧∃n,w'=w.drewN n):=fun w=>by
  have:=eL va w h0 h1;rw [hcn] at this;exact this
 have HT:Hid (∀w:World,Calls Tryz.prog 58 #[VU va,VI level] w fun e w'=>e=.returned (VU tv)∧∃n,w'=w.drewN n):=fun w=>by
  have:=sR va level w h0 h1 hl0 hl2;rw [htv] at this;exact this
 obtain ⟨R,hR⟩:∃R,iM ⟨hv,va,ha,fa⟩ level tag asid glob=R:=⟨_,rfl⟩;rw [hR];have HR:Hid (R=(!(hv && (!cn || tag != tv)) && (!ha || (!glob && asid == fa)))):=by
  show _=_;rw [<-hR,<-hcn,<-htv];rfl
 clear hR hcn htv;cases hv
 ·cases ha <;> cases glob;all_goals
   go_enter Tryz.func62,Tryz.ntmps62;go_wp2;go_ret;exact ⟨aD (by rw [HR.out];simp),n1⟩
 ·cases cn
  ·go_enter Tryz.func62,Tryz.ntmps62;go_wp2_with (go_at_call 55;refine (HC.out _).mono ?_;rintro e w' ⟨rfl,nq,rfl⟩);go_ret;exact ⟨aD (by rw [HR.out];simp),below_drewN n1 _⟩
  ·cases ht:(tag != tv)
   ·cases ha <;> cases glob;all_goals
     go_enter Tryz.func62,Tryz.ntmps62;go_wp2_with (first
      | (go_at_call 55;refine (HC.out _).mono ?_;rintro e w' ⟨rfl,nq,rfl⟩)
      | (go_at_call 58;refine (HT.out _).mono ?_;rintro e w' ⟨rfl,nr,rfl⟩))
     go_ret;exact ⟨aD (by rw [HR.out,ht];simp),below_drewN n1 (nq+nr)⟩
   ·go_enter Tryz.func62,Tryz.ntmps62;go_wp2_with (first
     | (go_at_call 55;refine (HC.out _).mono ?_;rintro e w' ⟨rfl,nq,rfl⟩)
     | (go_at_call 58;refine (HT.out _).mono ?_;rintro e w' ⟨rfl,nr,rfl⟩))
    go_ret;exact ⟨aD (by rw [HR.out,ht];simp),below_drewN n1 (nq+nr)⟩
end
section
attribute [local go_sem ↓] Go.wp_at_zero Go.wp_at_succ
def bO (f:FenceM) (k:Nat) (es:List EntM):List EntM:=(es.take k).map (cx f)++es.drop k
theorem jP (f:FenceM) (k:Nat) (es:List EntM):(bO f k es).length=es.length:=by
 simp [bO];omega
theorem pM (f:FenceM) (k:Nat) (es:List EntM) (x:EntM) (hx:es[k]?=some x):bO f (k+1) es=(bO f k es).set k (cx f x):=by
 obtain ⟨hk,rfl⟩:=List.getElem?_eq_some_iff.1 hx;unfold bO;apply List.ext_getElem?;intro j;rw [List.getElem?_set];by_cases hj:k=j
 ·subst hj;rw [if_pos rfl,if_pos (by simp;omega),List.getElem?_append_left (by simp;omega)];simp [hk]
 ·rw [if_neg hj];by_cases hlt:j<k
  ·rw [List.getElem?_append_left (by simp;omega),List.getElem?_append_left (by simp;omega)];simp [hlt,show j<k+1 by omega]
  ·rw [List.getElem?_append_right (by simp;omega),List.getElem?_append_right (by simp;omega)];simp;rw [show min (k+1) es.length=k+1 by omega,show min k es.length=k by omega];congr 1;omega
theorem js:∀(l:List EntM) (k:Nat) (e:EntM),k<l.length->aO (l.set k e)=((((((aO l).set (k*6) (.bool e.valid)).set (k*6+1) (VI e.level)).set (k*6+2) (VU e.tag)).set (k*6+3) (VU e.asid)).set (k*6+4) (.bool e.glob)).set (k*6+5) (VU e.pte)
 | x::r,0,e,h=>by simp [aO,jV]
 | x::r,k+1,e,h=>by
  have ih:=js r k e (by simpa using h);rw [List.set_cons_succ];simp only [aO,ih];rw [show (k+1)*6=(jV x).length+k*6 by simp [jV];omega];simp only [Nat.add_assoc];rw [List.set_append_right _ _ (by simp [jV]),List.set_append_right _ _ (by omega),List.set_append_right _ _ (by omega),List.set_append_right _ _ (by omega),List.set_append_right _ _ (by omega),List.set_append_right _ _ (by omega)];simp
theorem jU (v:Value) (t:TlbM) (f:FenceM) (w:World) (h:TlbAt w v t) (hf0:0<=f.va) (hf1:f.va<=18446744073709551615):
 Calls Tryz.prog 131 #[v,vR f] w fun e w'=>(∃x,e=.returned x∧TlbOwn w.heap.size w' x (eO t f))∧Bw w w':=by
 have HT:=hid h;have HOK:=hid (TlbAt.ok h);obtain ⟨a,cap,rfl,hr,_,_,_,hl,hlc,hcm,hnil,hsp⟩:=h;obtain ⟨eb,heb⟩:∃eb,gy t=eb:=⟨_,rfl⟩;have HEb:=hid heb;obtain ⟨sets,ways,es⟩:=t;obtain ⟨hv,fva,ha,fa⟩:=f;obtain ⟨n,hn⟩:∃n,es.length=n:=⟨_,rfl⟩;simp only at hr hl hlc hnil hf0 hf1 HT |-;have HN:=hid hn;rw [hn] at hr hl hlc hnil HT |-;obtain ⟨X,hX⟩:∃X,eO ⟨sets,ways,es⟩ ⟨hv,fva,ha,fa⟩=X:=⟨_,rfl⟩;have HX:=hid hX;rw [hX];have HR0:=hid hr;have HLv:Hid (eb=true->∀(j:Nat) x,es[j]?=some x->x.valid=true->0<=x.level∧x.level<=2):=fun h j x hx hv=>ew (t:=⟨sets,ways,es⟩) (heb.trans h) j x hx hv;clear hX;unfold vR;simp only;obtain ⟨v1,Ev1,n1,H1,H2,H3,l1⟩:=al3 w #[VI sets,VI ways,.slice a n cap] #[.bool hv,VU fva,.bool ha,VU fa] #[VI 0,VI 0,SN] 39 59 39;have HT1:=hid (HT.out.keep n1);have HR1:=hid (hr.keep n1);clear hr hnil hsp HT heb hn;go_enter Tryz.func131,Tryz.ntmps131;go_wp2_with fail;rw [Ev1.out];clear Ev1;refine (iE _ ⟨sets,ways,es⟩ v1 HT1.out).mono ?_;rintro e v2 ⟨⟨x,rfl,g,cp,rfl,o2⟩,n2⟩;simp only at o2 |-;rw [HN.out] at o2 |-;have O2:=hid o2;have hg:=bI o2;have n12:=bst n1 n2;have HT2:=hid (HT1.out.keep n2);have HR2:=hid (RowC.keep HR1.out n2);have K1:=ah H1 n2;have K2:=ah H2 n2;have K3:=ah H3 n2;have l2:=n2.size;obtain ⟨_,hg1,hg2⟩:=hg;simp only at hg1 hg2;clear o2 n1 n2 HT1 HR1 H1 H2 H3;obtain ⟨⟨c0,c1,c2⟩,_,_,_⟩:=aA K1.out;have s0:w.heap.size<v2.heap.size:=by omega
 go_wp2_with fail;obtain ⟨v3,Ev3,n3,H4,l3⟩:=al1 v2 #[VI sets,VI ways,SL g n cp] 39;rw [Ev3.out];clear Ev3;have n13:=bst n12 n3;have HT3:=hid (HT2.out.keep n3);refine (pL _ ⟨sets,ways,es⟩ v3 HT3.out).mono ?_;rw [HEb.out];rintro e v4 ⟨rfl,n4⟩;have n34:=bst n3 n4;have A4:=bst n12 n34;have HR4:Hid (RowC v4 a n 6 (aO es)):=RowC.keep HR2.out n34;have O4:Hid (v4.ownsRow v1.heap.size 127 6 (SL g n cp) n (aO es)):=aj O2.out n34;have P1:=ah K1 n34;have P2:=ah K2 n34;have P3:=ah K3 n34;have P4:=ah H4 n4;have l4:v2.heap.size<v4.heap.size:=ltl l3 n4.size;clear c0 c1 c2 n12 n13 n3 n4 n34 HT2 HT3 HR2 O2 K1 K2 K3 H4 l3;obtain ⟨⟨p0,p1,p2⟩,_,_,_⟩:=aA P4.out;cases eb
 ·have hfl:X=⟨sets,ways,es⟩:=by rw [<-HX.out];unfold eO;rw [if_neg (by rw [HEb.out];simp)]
  obtain ⟨⟨d0,d1,d2⟩,e0,e1,e2⟩:=aA P3.out;go_wp2_with fail;refine bodyPost_ret (v:=.agg #[VI sets,VI ways,SL g n cp]) (by simp [results,Tryz.results131,go_sem,d0,d1,d2]) rfl ⟨⟨_,rfl,?_⟩,gQ A4 (by omega) _ _ _⟩;rw [hfl];refine ⟨g,cp,by rw [HN.out],?_⟩;simp only;rw [HN.out];exact aJ (aG O4.out (gb3 v4 (w.heap.size+1+1) _ _ _) (by omega)) (by omega)
 ·have HLv':=HLv.out rfl;have HL2:Hid (∀(j:Nat) x,es[j]?=some x->x.valid=true->0<=x.level∧x.level<=2):=HLv';clear HLv HLv';go_wp2;go_loopw [6] (fun i wr=>∃k:Nat,k<=n∧i=VI k∧v4.grownBy wr (some g)∧wr.ownsRow v1.heap.size 127 6 (SL g n cp) n (aO (bO ⟨hv,fva,ha,fa⟩ k es))) (fun i _=>n-(intOf i).toNat)
  case atStart=>exact ⟨0,Nat.zero_le _,rfl,aw _ _,by rw [show bO ⟨hv,fva,ha,fa⟩ 0 es=es by simp [bO]];exact O4.out⟩
  case round=>
   obtain ⟨k,hk,rfl,hn,hO⟩:=hrel;have HO:Hid (wr.ownsRow v1.heap.size 127 6 (SL g n cp) n (aO (bO ⟨hv,fva,ha,fa⟩ k es))):=hO;have lr:v4.heap.size<=wr.heap.size:=hn.size;clear p0 p1 p2;obtain ⟨⟨p0,p1,p2⟩,_,_,_⟩:=aA (aB P4.out hn (by omega));by_cases hlt:k<n
   ·obtain ⟨x,hx⟩:∃x,es[k]?=some x:=⟨_,geg (by rw [HN.out];exact hlt)⟩;obtain ⟨b,off,rfl,hb⟩:∃b off,a=some (AD b off)∧b<w.heap.size:=by
     rcases HR0.out.2 with h | ⟨b,off,h,h2,_⟩
     ·omega
     ·exact ⟨b,off,h,h2⟩
    have CE:∀j u,j<6->(jV x)[j]?=some u->wr.cell? ⟨b,off+(k*6+j),none⟩=some u:=fun j u hj hu=>
     pQ hn (Below.cell2 A4 (dL HR0.out HN.out k x hx j u hj hu) hb) (by omega) (by omega)
    obtain ⟨vv,lv,tg,asd,gl,pt⟩:=x;have g0:wr.cell? ⟨b,off+k*6,none⟩=some (.bool vv):=CE 0 _ (by omega) rfl;have g1:wr.cell? ⟨b,off+k*6+1,none⟩=some (VI lv):=CE 1 _ (by omega) rfl;have g2:wr.cell? ⟨b,off+k*6+2,none⟩=some (VU tg):=CE 2 _ (by omega) rfl;have g3:wr.cell? ⟨b,off+k*6+3,none⟩=some (VU asd):=CE 3 _ (by omega) rfl;have g4:wr.cell? ⟨b,off+k*6+4,none⟩=some (.bool gl):=CE 4 _ (by omega) rfl;have g5:wr.cell? ⟨b,off+k*6+5,none⟩=some (VU pt):=CE 5 _ (by omega) rfl;have hok:fq ⟨vv,lv,tg,asd,gl,pt⟩:=HOK.out.1 _ (List.mem_of_getElem? hx);have HNx:Hid (bO ⟨hv,fva,ha,fa⟩ (k+1) es=(bO ⟨hv,fva,ha,fa⟩ k es).set k (cx ⟨hv,fva,ha,fa⟩ ⟨vv,lv,tg,asd,gl,pt⟩)):=pM _ k es _ hx;have HSm:Hid ((bO ⟨hv,fva,ha,fa⟩ k es).set k ⟨vv,lv,tg,asd,gl,pt⟩=bO ⟨hv,fva,ha,fa⟩ k es):=by
     show _=_;apply List.ext_getElem?;intro j;rw [List.getElem?_set];by_cases hj:k=j
     ·subst hj;rw [if_pos rfl,if_pos (by rw [jP,HN.out];exact hlt)];unfold bO;have hkl:k<=es.length:=by rw [HN.out];omega
      rw [List.getElem?_append_right (by simp;omega),List.length_map,List.length_take,Nat.min_eq_left hkl,Nat.sub_self,List.getElem?_drop,Nat.add_zero,hx]
     ·rw [if_neg hj]
    have HLx:Hid (vv=true->0<=lv∧lv<=2):=fun h=>HL2.out k _ hx h;obtain ⟨⟨c0,c1,c2⟩,_,_,_⟩:=aA (aB P1.out hn (by omega));obtain ⟨⟨f0,f1,f2,f3⟩,_,_,_,_⟩:=ay (aB P2.out hn (by omega));have u0:w.heap.size<wr.heap.size:=by omega
    have u1:w.heap.size+1<wr.heap.size:=by omega
    have u2:v2.heap.size<wr.heap.size:=by omega
    have n5:=(Below.refl wr.heap.size wr).alloc nle (Obj.cells #[.bool vv,VI lv,VU tg,VU asd,.bool gl,VU pt] 127);clear CE hx hO;cases vv
    ·have hst:cx ⟨hv,fva,ha,fa⟩ ⟨false,lv,tg,asd,gl,pt⟩=⟨false,lv,tg,asd,gl,pt⟩:=by simp [cx]
     go_wp2;go_roundw
     case rel=>exact ⟨k+1,by omega,by go_num,fY hn n5,by rw [HNx.out,hst,HSm.out];exact aj HO.out n5⟩
     case measure=>simp [intOf];omega
    ·obtain ⟨hl0,hl2⟩:=HLx.out rfl;obtain ⟨cb,hcb⟩:∃cb,iM ⟨hv,fva,ha,fa⟩ lv tg asd gl=cb:=⟨_,rfl⟩;have HCov:Hid (∀w,Calls Tryz.prog 62 #[.agg #[.bool hv,VU fva,.bool ha,VU fa],VI lv,VU tg,VU asd,.bool gl] w fun e w'=>e=.returned (.bool cb)∧Bw w w'):=fun w=>by
      have:=vS ⟨hv,fva,ha,fa⟩ lv tg asd gl w hf0 hf1 hl0 hl2;rw [hcb] at this;exact this
     have HCb:Hid (iM ⟨hv,fva,ha,fa⟩ lv tg asd gl=cb):=hcb;clear hcb;go_wp2_with fail;generalize wr.alloc (Obj.cells #[.bool true,VI lv,VU tg,VU asd,.bool gl,VU pt] 127)=v5 at n5 |-;refine (HCov.out v5).mono ?_;rintro e v6 ⟨rfl,n6⟩;have n56:=bst n5 n6;have hn6:=fY hn n56;have HO6:=hid (aj HO.out n56);clear g0 g1 g2 g3 g4 g5 c0 c1 c2 f0 f1 f2 f3 p0 p1 p2 n5 n6 HO hn;obtain ⟨⟨p0,p1,p2⟩,_,_,_⟩:=aA (aB P4.out hn6 (by omega));cases cb
     ·have hst:cx ⟨hv,fva,ha,fa⟩ ⟨true,lv,tg,asd,gl,pt⟩=⟨true,lv,tg,asd,gl,pt⟩:=by simp [cx,HCb.out]
      go_wp2;go_roundw
      case rel=>exact ⟨k+1,by omega,by go_num,hn6,by rw [HNx.out,hst,HSm.out];exact HO6.out⟩
      case measure=>simp [intOf];omega
     ·have hst:cx ⟨hv,fva,ha,fa⟩ ⟨true,lv,tg,asd,gl,pt⟩=cH:=by simp [cx,HCb.out]
      have hcl:(aO (bO ⟨hv,fva,ha,fa⟩ k es)).length=n*6:=by rw [eT,jP,HN.out]
      have q0:=aE HO6.out (k*6) _ (geg (by omega));have q1:=aE HO6.out (k*6+1) _ (geg (by omega));have q2:=aE HO6.out (k*6+2) _ (geg (by omega));have q3:=aE HO6.out (k*6+3) _ (geg (by omega));have q4:=aE HO6.out (k*6+4) _ (geg (by omega));have q5:=aE HO6.out (k*6+5) _ (geg (by omega));generalize (aO (bO ⟨hv,fva,ha,fa⟩ k es))[k*6]'_=y0 at q0;generalize (aO (bO ⟨hv,fva,ha,fa⟩ k es))[k*6+1]'_=y1 at q1;generalize (aO (bO ⟨hv,fva,ha,fa⟩ k es))[k*6+2]'_=y2 at q2;generalize (aO (bO ⟨hv,fva,ha,fa⟩ k es))[k*6+3]'_=y3 at q3;generalize (aO (bO ⟨hv,fva,ha,fa⟩ k es))[k*6+4]'_=y4 at q4;generalize (aO (bO ⟨hv,fva,ha,fa⟩ k es))[k*6+5]'_=y5 at q5;have r0:=aQ HO6.out (k*6);have r1:=aQ HO6.out (k*6+1);have r2:=aQ HO6.out (k*6+2);have r3:=aQ HO6.out (k*6+3);have r4:=aQ HO6.out (k*6+4);have r5:=aQ HO6.out (k*6+5);go_wp2;go_roundw
      case rel=>
       refine ⟨k+1,by omega,by go_num,aq (aq (aq (aq (aq (aq hn6 _ _) _ _) _ _) _ _) _ _) _ _,?_⟩;rw [HNx.out,hst,js _ _ _ (by rw [jP,HN.out];exact hlt)];exact aF (aF (aF (aF (aF (aF HO6.out _ _) _ _) _ _) _ _) _ _) _ _
      case measure=>simp [intOf];omega
   ·have hkn:k=n:=by omega
    subst hkn;have hfl:X=⟨sets,ways,es.map (cx ⟨hv,fva,ha,fa⟩)⟩:=by rw [<-HX.out];unfold eO;rw [if_pos HEb.out]
    have hsn:bO ⟨hv,fva,ha,fa⟩ k es=es.map (cx ⟨hv,fva,ha,fa⟩):=by
     have hq:=HN.out;unfold bO;rw [<-hq,List.take_length,List.drop_length,List.append_nil]
    obtain ⟨⟨d0,d1,d2⟩,e0,e1,e2⟩:=aA (aB P3.out hn (by omega));go_wp2_with fail;refine bodyPost_ret (v:=.agg #[VI sets,VI ways,SL g k cp]) (by simp [results,Tryz.results131,go_sem,d0,d1,d2]) rfl ⟨⟨_,rfl,?_⟩,gQ (A4.grown hn (by have:=A4.size;omega) (fun q hq=>by cases hq;omega)) (by omega) _ _ _⟩;rw [hfl];refine ⟨g,cp,by simp only [List.length_map];rw [HN.out],?_⟩;simp only [List.length_map];rw [HN.out,<-hsn];exact aJ (aG HO.out (gb3 wr (w.heap.size+1+1) _ _ _) (by omega)) (by omega)
end
section
attribute [local go_sem ↓] Go.wp_at_zero Go.wp_at_succ
theorem qA {v:World} {p:Nat} {T:TypeId} {a b c d e f:Value} (h:v.heap[p]?=some (.cells #[a,b,c,d,e,f] T (0,0))):
 v.cell? (AD p 0)=some a∧v.cell? (AD p 1)=some b∧v.cell? (AD p 2)=some c∧v.cell? (AD p 3)=some d∧v.cell? (AD p 4)=some e∧v.cell? (AD p 5)=some f:=by
 simp [World.cell?,h]
theorem TlbOwn.drew {base:Nat} {w:World} {v:Value} {t:TlbM} (h:TlbOwn base w v t):TlbOwn base w.drew v t:=h
theorem oQ (es:List EntM) (first:Nat):∀(left w k:Nat),k<left->(∀j,j<k->(es[first+(w+j)]?.getD cH).valid=true)->(es[first+(w+k)]?.getD cH).valid=false->mz es first w left=some (w+k)
 | 0,w,k,h,_,_=>by omega
 | left+1,w,0,h,h1,h2=>by
  rw [mz,if_pos (by simpa using h2)];rfl
 | left+1,w,k+1,h,h1,h2=>by
  rw [mz,if_neg (by have:=h1 0 (by omega);simp at this;rw [this];simp)];rw [oQ es first left (w+1) k (by omega) (fun j hj=>by rw [show w+1+j=w+(j+1) by omega];exact h1 (j+1) (by omega)) (by rw [show w+1+k=w+(k+1) by omega];exact h2)];congr 1;omega
theorem oT (es:List EntM) (first:Nat):∀(left w:Nat),(∀j,j<left->(es[first+(w+j)]?.getD cH).valid=true)->mz es first w left=none
 | 0,w,h=>rfl
 | left+1,w,h=>by
  rw [mz,if_neg (by have:=h 0 (by omega);simp at this;rw [this];simp)];exact oT es first left (w+1) (fun j hj=>by rw [show w+1+j=w+(j+1) by omega];exact h (j+1) (by omega))
theorem mn (v:Value) (t:TlbM) (x:EntM) (pick:Int) (w:World) (h:TlbAt w v t) (hx:fq x):
 Calls Tryz.prog 156 #[v,nX x,VI pick] w fun e w'=>(∃y,e=.returned y∧TlbOwn w.heap.size w' y (dg t x pick))∧Bw w w':=by
 have HT:=hid h;have HOK:=hid (TlbAt.ok h);obtain ⟨a,cap,rfl,hr,_,_,_,hl,hlc,hcm,hnil,hsp⟩:=h;obtain ⟨sets,ways,es⟩:=t;obtain ⟨vv,lv,tg,asd,gl,pt⟩:=x;obtain ⟨n,hn⟩:∃n,es.length=n:=⟨_,rfl⟩;simp only at hr hl hlc hnil HT |-;have HN:=hid hn;rw [hn] at hr hl hlc hnil HT |-;obtain ⟨X,hX⟩:∃X,dg ⟨sets,ways,es⟩ ⟨vv,lv,tg,asd,gl,pt⟩ pick=X:=⟨_,rfl⟩;have HX:=hid hX;rw [hX];have HR0:=hid hr;obtain ⟨q1,hq1⟩:∃q,aR ⟨sets,ways,es⟩ true=q:=⟨_,rfl⟩;obtain ⟨q2,hq2⟩:∃q,aR ⟨sets,ways,es⟩ false=q:=⟨_,rfl⟩;obtain ⟨q3,hq3⟩:∃q,aZ ⟨vv,lv,tg,asd,gl,pt⟩ true=q:=⟨_,rfl⟩;obtain ⟨q4,hq4⟩:∃q,aZ ⟨vv,lv,tg,asd,gl,pt⟩ false=q:=⟨_,rfl⟩;have HFi:Hid (kZ ⟨sets,ways,es⟩ ⟨vv,lv,tg,asd,gl,pt⟩=((q1 && q3) || (q2 && q4))):=by show _=_;rw [kZ,hq1,hq2,hq3,hq4]
 have HQ:Hid (aR ⟨sets,ways,es⟩ true=q1∧aR ⟨sets,ways,es⟩ false=q2):=⟨hq1,hq2⟩;have HG:Hid (∀p w,Calls Tryz.prog 151 #[.agg #[.bool vv,VI lv,VU tg,VU asd,.bool gl,VU pt],.bool p] w fun e w'=>e=.returned (.bool (cond p q3 q4))∧Bw w w'):=fun p w=>by
  have:=lH ⟨vv,lv,tg,asd,gl,pt⟩ p w hx;cases p
  ·rw [hq4] at this;exact this
  ·rw [hq3] at this;exact this
 have HV:Hid (∀p w,TlbAt w (.agg #[VI sets,VI ways,.slice a n cap]) ⟨sets,ways,es⟩->Calls Tryz.prog 123 #[.agg #[VI sets,VI ways,.slice a n cap],.bool p] w fun e w'=>e=.returned (.bool (cond p q1 q2))∧Bw w w'):=fun p w h=>by
  have:=fM _ _ p w h;cases p
  ·rw [hq2] at this;exact this
  ·rw [hq1] at this;exact this
 unfold nX;simp only;obtain ⟨v1,Ev1,n1,H1,H2,H3,l1⟩:=al3 w #[VI sets,VI ways,.slice a n cap] #[.bool vv,VI lv,VU tg,VU asd,.bool gl,VU pt] #[VI 0,VI 0,SN] 39 127 39;have HT1:=hid (HT.out.keep n1);clear hr hnil hsp HT hn hX hq1 hq2 hq3 hq4;go_enter Tryz.func156,Tryz.ntmps156;go_wp2_with fail;rw [Ev1.out];clear Ev1;refine (iE _ ⟨sets,ways,es⟩ v1 HT1.out).mono ?_;rintro e v2 ⟨⟨x,rfl,g,cp,rfl,o2⟩,n2⟩;simp only at o2 |-;rw [HN.out] at o2 |-;have O2:=hid o2;have hg:=bI o2;have A2:=bst n1 n2;have HT2:=hid (HT1.out.keep n2);have K1:=ah H1 n2;have K2:=ah H2 n2;have K3:=ah H3 n2;have l2:=n2.size;obtain ⟨_,hg1,hg2⟩:=hg;simp only at hg1 hg2;clear o2 n1 n2 HT1 H1 H2 H3;go_upto_region 2 with fail;obtain ⟨v3,Ev3,n3,H4,l3⟩:=al1 v2 #[VI sets,VI ways,SL g n cp] 39;rw [Ev3.out];clear Ev3;have A3:=bst A2 n3;have HT3:Hid (∀v,Bw v3 v->TlbAt v (.agg #[VI sets,VI ways,.slice a n cap]) ⟨sets,ways,es⟩):=fun v hv=>(HT2.out.keep n3).keep hv;have O3:Hid (v3.ownsRow v1.heap.size 127 6 (SL g n cp) n (aO es)):=aj O2.out n3;have P1:=ah K1 n3;have P2:=ah K2 n3;have P3:=ah K3 n3;clear n3 HT2 O2 K1 K2 K3 A2;have HC:Hid (∀v,Bw v3 v->(v.cell? (AD w.heap.size 0)=some (VI sets)∧v.cell? (AD w.heap.size 1)=some (VI ways)∧v.cell? (AD w.heap.size 2)=some (.slice a n cap))∧
  v.cell? ⟨w.heap.size+1,0,none⟩=some (.bool vv)∧v.cell? ⟨w.heap.size+1,1,none⟩=some (VI lv)∧v.cell? ⟨w.heap.size+1,2,none⟩=some (VU tg)∧v.cell? ⟨w.heap.size+1,3,none⟩=some (VU asd)∧v.cell? ⟨w.heap.size+1,4,none⟩=some (.bool gl)∧v.cell? ⟨w.heap.size+1,5,none⟩=some (VU pt)):=
  fun v hv=>⟨(aA (ag P1.out hv (by omega))).1,qA (ag P2.out hv (by omega))⟩
 have bl:Bw v3 v3:=brf;obtain ⟨FB,hFB⟩:∃FB,((q1 && q3) || (q2 && q4))=FB:=⟨_,rfl⟩;go_cut [8] (fun s8 wx=>s8=.bool FB∧Bw v3 wx)
 case first=>
  obtain ⟨⟨c0,c1,c2⟩,f0,f1,f2,f3,f4,f5⟩:=HC.out v3 bl;cases q1
  ·cases q2 <;> cases q4;all_goals
    go_wp2_with (first
    | (go_at_call 123;refine (HV.out _ _ (HT3.out _ bl)).mono ?_;rintro e vz ⟨rfl,nz⟩;dsimp only [cond];replace bl:=bst bl nz;clear c0 c1 c2 f0 f1 f2 f3 f4 f5;have cc:=HC.out _ bl;obtain ⟨⟨c0,c1,c2⟩,f0,f1,f2,f3,f4,f5⟩:=cc)
    | (go_at_call 151;refine (HG.out _ _).mono ?_;rintro e vz ⟨rfl,nz⟩;dsimp only [cond];replace bl:=bst bl nz;clear c0 c1 c2 f0 f1 f2 f3 f4 f5;have cc:=HC.out _ bl;obtain ⟨⟨c0,c1,c2⟩,f0,f1,f2,f3,f4,f5⟩:=cc))
    go_meet;exact ⟨by rw [<-hFB];rfl,bl⟩
  ·cases q3
   ·cases q2 <;> cases q4;all_goals
     go_wp2_with (first
     | (go_at_call 123;refine (HV.out _ _ (HT3.out _ bl)).mono ?_;rintro e vz ⟨rfl,nz⟩;dsimp only [cond];replace bl:=bst bl nz;clear c0 c1 c2 f0 f1 f2 f3 f4 f5;have cc:=HC.out _ bl;obtain ⟨⟨c0,c1,c2⟩,f0,f1,f2,f3,f4,f5⟩:=cc)
     | (go_at_call 151;refine (HG.out _ _).mono ?_;rintro e vz ⟨rfl,nz⟩;dsimp only [cond];replace bl:=bst bl nz;clear c0 c1 c2 f0 f1 f2 f3 f4 f5;have cc:=HC.out _ bl;obtain ⟨⟨c0,c1,c2⟩,f0,f1,f2,f3,f4,f5⟩:=cc))
     go_meet;exact ⟨by rw [<-hFB];rfl,bl⟩
   ·go_wp2_with (first
    | (go_at_call 123;refine (HV.out _ _ (HT3.out _ bl)).mono ?_;rintro e vz ⟨rfl,nz⟩;dsimp only [cond];replace bl:=bst bl nz;clear c0 c1 c2 f0 f1 f2 f3 f4 f5;have cc:=HC.out _ bl;obtain ⟨⟨c0,c1,c2⟩,f0,f1,f2,f3,f4,f5⟩:=cc)
    | (go_at_call 151;refine (HG.out _ _).mono ?_;rintro e vz ⟨rfl,nz⟩;dsimp only [cond];replace bl:=bst bl nz;clear c0 c1 c2 f0 f1 f2 f3 f4 f5;have cc:=HC.out _ bl;obtain ⟨⟨c0,c1,c2⟩,f0,f1,f2,f3,f4,f5⟩:=cc))
    go_meet;exact ⟨by rw [<-hFB];rfl,bl⟩
 case rest=>
  obtain ⟨rfl,m⟩:=hcut;generalize wc=v4 at m |-;have A4:=bst A3 m;have O4:Hid (v4.ownsRow v1.heap.size 127 6 (SL g n cp) n (aO es)):=aj O3.out m;have R1:=ah P1 m;have R2:=ah P2 m;have R3:=ah P3 m;have R4:=ah H4 m;have l4:v3.heap.size<=v4.heap.size:=m.size;have HFB:Hid (kZ ⟨sets,ways,es⟩ ⟨vv,lv,tg,asd,gl,pt⟩=FB):=HFi.out.trans hFB;clear HFi hFB HC HT3 HG HV P1 P2 P3 H4 O3 A3 m bl;obtain ⟨⟨p0,p1,p2⟩,_,_,_⟩:=aA R4.out;obtain ⟨⟨d0,d1,d2⟩,e0,e1,e2⟩:=aA R3.out;by_cases hok:FB=true∧0<=pick∧pick<=255
  ·obtain ⟨rfl,hp0,hp1⟩:=hok;obtain ⟨pp,hvp,hgp⟩:∃pp,aR ⟨sets,ways,es⟩ pp=true∧aZ ⟨vv,lv,tg,asd,gl,pt⟩ pp=true:=by
    have:=HFB.out;simp only [kZ,Bool.or_eq_true,Bool.and_eq_true] at this;rcases this with ⟨h1,h2⟩ | ⟨h1,h2⟩
    ·exact ⟨true,h1,h2⟩
    ·exact ⟨false,h1,h2⟩
   obtain ⟨hs,hw,hw',hnw⟩:=fI hvp;simp only at hs hw hw' hnw;rw [HN.out] at hnw;have htg:tg<512:=xR hgp;have htg0:0<=tg:=hx.2.1.1;have HXe:Hid (X=⟨sets,ways,es.set (fA ⟨sets,ways,es⟩ ⟨vv,lv,tg,asd,gl,pt⟩+jW ⟨sets,ways,es⟩ ⟨vv,lv,tg,asd,gl,pt⟩ pick) ⟨vv,lv,tg,asd,gl,pt⟩⟩):=by
    show _=_;rw [<-HX.out];unfold dg;rw [if_pos ⟨HFB.out,hp0,hp1⟩]
   obtain ⟨⟨c0,c1,c2⟩,_,_,_⟩:=aA R1.out;obtain ⟨f0,f1,f2,f3,f4,f5⟩:=qA R2.out;have hf1:=tj (t:=⟨sets,ways,es⟩) (e:=⟨vv,lv,tg,asd,gl,pt⟩) htg0 hs hw;simp only at hf1;have HIx:=fun pk=>Fy (t:=⟨sets,ways,es⟩) (e:=⟨vv,lv,tg,asd,gl,pt⟩) (pick:=pk) hvp htg0;obtain ⟨fi,hfi⟩:∃fi,fA ⟨sets,ways,es⟩ ⟨vv,lv,tg,asd,gl,pt⟩=fi:=⟨_,rfl⟩;have HFi:Hid (fA ⟨sets,ways,es⟩ ⟨vv,lv,tg,asd,gl,pt⟩=fi):=hfi;rw [hfi] at hf1;have hfb:(fi:Int)+ways<=n:=by
    have h3:tg%sets<sets:=Int.emod_lt_of_pos _ (by omega);have h5:(tg%sets+1)*ways<=sets*ways:=Int.mul_le_mul_of_nonneg_right (by omega) (by omega);rw [Int.add_mul] at h5;omega
   have HF1:Hid ((fi:Int)=tg%sets*ways):=hf1;have HWr:Hid (wrap64 (tg%sets*ways)=(fi:Int)):=by
    show _=_;rw [<-hf1];unfold wrap64;omega
   clear hfi HIx hf1;go_upto_region 5 with fail;go_cut [9] (fun s9 wx=>s9=VI fi∧∃q,wx=v4.drewN q)
   case first=>
    rcases hs with rfl | rfl | rfl | rfl;all_goals
     go_quiet (fail);go_wp2;go_meet;exact ⟨by first | rw [HWr.out] | (rw [HF1.out] <;> simp),nq,rfl⟩
   case rest=>
    obtain ⟨rfl,qd,rfl⟩:=hcut;have A5:Bw w (v4.drewN qd):=below_drewN A4 qd;have O5:Hid ((v4.drewN qd).ownsRow v1.heap.size 127 6 (SL g n cp) n (aO es)):=O4;have S1:Hid ((v4.drewN qd).heap[w.heap.size]?=_):=R1;have S2:Hid ((v4.drewN qd).heap[w.heap.size+1]?=_):=R2;have S3:Hid ((v4.drewN qd).heap[w.heap.size+1+1]?=_):=R3;have S4:Hid ((v4.drewN qd).heap[v2.heap.size]?=_):=R4;have l5:v3.heap.size<=(v4.drewN qd).heap.size:=l4;generalize v4.drewN qd=v5 at A5 O5 S1 S2 S3 S4 l5 |-;clear O4 R1 R2 R3 R4 l4 A4 c0 c1 c2 f0 f1 f2 f3 f4 f5 p0 p1 p2 d0 d1 d2 e0 e1 e2;go_wp2;go_loopw [10] (fun i wr=>∃k:Nat,(k:Int)<=ways∧i=VI k∧(∀j,j<k->(es[fi+j]?.getD cH).valid=true)∧Bw v5 wr) (fun i _=>ways.toNat-(intOf i).toNat)
    case atStart=>exact ⟨0,by omega,rfl,fun j hj=>absurd hj (by omega),brf⟩
    case round=>
     obtain ⟨k,hk,rfl,hall,hb⟩:=hrel;have HAll:Hid (∀j,j<k->(es[fi+j]?.getD cH).valid=true):=hall;have HO:Hid (wr.ownsRow v1.heap.size 127 6 (SL g n cp) n (aO es)):=aj O5.out hb;have A6:=bst A5 hb;have lr:v3.heap.size<=wr.heap.size:=Nat.le_trans l5 hb.size;obtain ⟨⟨c0,c1,c2⟩,_,_,_⟩:=aA (ag S1.out hb (by omega));obtain ⟨f0,f1,f2,f3,f4,f5⟩:=qA (ag S2.out hb (by omega));obtain ⟨⟨d0,d1,d2⟩,e0,e1,e2⟩:=aA (ag S3.out hb (by omega));obtain ⟨⟨p0,p1,p2⟩,_,_,_⟩:=aA (ag S4.out hb (by omega));clear hall;by_cases hlt:(k:Int)<ways
     ·obtain ⟨x,hx'⟩:∃x,es[fi+k]?=some x:=⟨_,geg (by rw [HN.out];omega)⟩;obtain ⟨b,off,rfl,hbb⟩:∃b off,a=some (AD b off)∧b<w.heap.size:=by
       rcases HR0.out.2 with h | ⟨b,off,h,h2,_⟩
       ·omega
       ·exact ⟨b,off,h,h2⟩
      have CE:∀j u,j<6->(jV x)[j]?=some u->wr.cell? ⟨b,off+((fi+k)*6+j),none⟩=some u:=fun j u hj hu=>
       Below.cell2 A6 (dL HR0.out HN.out (fi+k) x hx' j u hj hu) hbb
      obtain ⟨xv,x1,x2,x3,x4,x5⟩:=x;have g0:wr.cell? ⟨b,off+(fi+k)*6,none⟩=some (.bool xv):=CE 0 _ (by omega) rfl;have g1:wr.cell? ⟨b,off+(fi+k)*6+1,none⟩=some (VI x1):=CE 1 _ (by omega) rfl;have g2:wr.cell? ⟨b,off+(fi+k)*6+2,none⟩=some (VU x2):=CE 2 _ (by omega) rfl;have g3:wr.cell? ⟨b,off+(fi+k)*6+3,none⟩=some (VU x3):=CE 3 _ (by omega) rfl;have g4:wr.cell? ⟨b,off+(fi+k)*6+4,none⟩=some (.bool x4):=CE 4 _ (by omega) rfl;have g5:wr.cell? ⟨b,off+(fi+k)*6+5,none⟩=some (VU x5):=CE 5 _ (by omega) rfl;have HXv:Hid ((es[fi+k]?.getD cH).valid=xv):=by show _=_;rw [hx'];rfl
      clear CE hx';cases xv
      ·have HXf:Hid (X=⟨sets,ways,es.set (fi+k) ⟨vv,lv,tg,asd,gl,pt⟩⟩):=by
        show _=_;rw [HXe.out,HFi.out];have:jW ⟨sets,ways,es⟩ ⟨vv,lv,tg,asd,gl,pt⟩ pick=k:=by
         unfold jW;simp only;rw [HFi.out,oQ es fi ways.toNat 0 k (by omega) (fun j hj=>by rw [Nat.zero_add];exact HAll.out j hj) (by rw [Nat.zero_add];exact HXv.out)];simp
        rw [this]
       have hcl:(aO es).length=n*6:=by rw [eT,HN.out]
       have y0:=aE HO.out ((fi+k)*6) _ (geg (by omega));have y1:=aE HO.out ((fi+k)*6+1) _ (geg (by omega));have y2:=aE HO.out ((fi+k)*6+2) _ (geg (by omega));have y3:=aE HO.out ((fi+k)*6+3) _ (geg (by omega));have y4:=aE HO.out ((fi+k)*6+4) _ (geg (by omega));have y5:=aE HO.out ((fi+k)*6+5) _ (geg (by omega));generalize (aO es)[(fi+k)*6]'_=z0 at y0;generalize (aO es)[(fi+k)*6+1]'_=z1 at y1;generalize (aO es)[(fi+k)*6+2]'_=z2 at y2;generalize (aO es)[(fi+k)*6+3]'_=z3 at y3;generalize (aO es)[(fi+k)*6+4]'_=z4 at y4;generalize (aO es)[(fi+k)*6+5]'_=z5 at y5;have r0:=aQ HO.out ((fi+k)*6);have r1:=aQ HO.out ((fi+k)*6+1);have r2:=aQ HO.out ((fi+k)*6+2);have r3:=aQ HO.out ((fi+k)*6+3);have r4:=aQ HO.out ((fi+k)*6+4);have r5:=aQ HO.out ((fi+k)*6+5);clear hcl;go_wp2_with fail;refine bodyPost_ret (v:=.agg #[VI sets,VI ways,SL g n cp]) (by simp [results,Tryz.results156,go_sem,d0,d1,d2]) rfl ⟨⟨_,rfl,?_⟩,gQ (A6.grown (aq (aq (aq (aq (aq (aq (aw wr (some g)) _ _) _ _) _ _) _ _) _ _) _ _) (by have:=A6.size;omega) (fun q hq=>by cases hq;omega)) (by omega) _ _ _⟩;rw [HXf.out];refine ⟨g,cp,by simp only [List.length_set];rw [HN.out],?_⟩;simp only [List.length_set];rw [HN.out,js es (fi+k) _ (by rw [HN.out];omega)];exact aJ (aG (aF (aF (aF (aF (aF (aF HO.out _ _) _ _) _ _) _ _) _ _) _ _) (gb3 _ (w.heap.size+1+1) _ _ _) (by omega)) (by omega)
      ·go_wp2;go_roundw
       case rel=>exact ⟨k+1,by omega,by go_num,fun j hj=>by
        by_cases e:j=k
        ·subst e;exact HXv.out
        ·exact HAll.out j (by omega),hb⟩
       case measure=>simp [intOf];omega
     ·have hkw:(k:Int)=ways:=by omega
      obtain ⟨pk,hpk⟩:=Int.eq_ofNat_of_zero_le (Int.emod_nonneg pick (show ways≠0 by omega));have hpk':(pk:Int)<ways:=by rw [<-hpk];exact Int.emod_lt_of_pos _ (by omega)
      have HXf:Hid (X=⟨sets,ways,es.set (fi+pk) ⟨vv,lv,tg,asd,gl,pt⟩⟩):=by
       show _=_;rw [HXe.out,HFi.out];have:jW ⟨sets,ways,es⟩ ⟨vv,lv,tg,asd,gl,pt⟩ pick=pk:=by
        unfold jW;simp only;rw [HFi.out,oT es fi ways.toNat 0 (fun j hj=>by rw [Nat.zero_add];exact HAll.out j (by omega)),hpk];simp
       rw [this]
      have hcl:(aO es).length=n*6:=by rw [eT,HN.out]
      have y0:=aE HO.out ((fi+pk)*6) _ (geg (by omega));have y1:=aE HO.out ((fi+pk)*6+1) _ (geg (by omega));have y2:=aE HO.out ((fi+pk)*6+2) _ (geg (by omega));have y3:=aE HO.out ((fi+pk)*6+3) _ (geg (by omega));have y4:=aE HO.out ((fi+pk)*6+4) _ (geg (by omega));have y5:=aE HO.out ((fi+pk)*6+5) _ (geg (by omega));generalize (aO es)[(fi+pk)*6]'_=z0 at y0;generalize (aO es)[(fi+pk)*6+1]'_=z1 at y1;generalize (aO es)[(fi+pk)*6+2]'_=z2 at y2;generalize (aO es)[(fi+pk)*6+3]'_=z3 at y3;generalize (aO es)[(fi+pk)*6+4]'_=z4 at y4;generalize (aO es)[(fi+pk)*6+5]'_=z5 at y5;have r0:=aQ HO.out ((fi+pk)*6);have r1:=aQ HO.out ((fi+pk)*6+1);have r2:=aQ HO.out ((fi+pk)*6+2);have r3:=aQ HO.out ((fi+pk)*6+3);have r4:=aQ HO.out ((fi+pk)*6+4);have r5:=aQ HO.out ((fi+pk)*6+5);clear hcl;have hrem:pick.tmod ways=(pk:Int):=by rw [Int.tmod_eq_emod_of_nonneg hp0];exact hpk
      have hwz:ways≠0:=by omega
      clear hpk;have i1:g≠w.heap.size:=by omega
      have i2:w.heap.size≠g:=by omega
      have i3:g≠w.heap.size+1:=by omega
      have i4:w.heap.size+1≠g:=by omega
      have i5:g≠v2.heap.size:=by omega
      have i6:v2.heap.size≠g:=by omega
      go_wp2_with fail;have t1:IntKind.i64.wrap ((fi:Int)+(pk:Int))=(fi:Int)+pk:=by
       rw [IntKind.wrap_i64];omega
      have t2:(0:Int)<=(fi:Int)+pk:=by omega
      have t3:(fi:Int)+pk<n:=by omega
      go_region_held (fun w'=>w'.cell? (AD v2.heap.size 2)=some (SL g n cp)∧w'.cell? (AD w.heap.size 1)=some (VI ways)∧w'.cell? ⟨w.heap.size+1,0,none⟩=some (.bool vv)∧w'.cell? ⟨w.heap.size+1,1,none⟩=some (VI lv)∧w'.cell? ⟨w.heap.size+1,2,none⟩=some (VU tg)∧w'.cell? ⟨w.heap.size+1,3,none⟩=some (VU asd)∧w'.cell? ⟨w.heap.size+1,4,none⟩=some (.bool gl)∧w'.cell? ⟨w.heap.size+1,5,none⟩=some (VU pt)) (go_keep) (fail);go_wp2_with fail;refine bodyPost_ret (v:=.agg #[VI sets,VI ways,SL g n cp]) (by simp [results,Tryz.results156,go_sem,d0,d1,d2]) rfl ⟨⟨_,rfl,?_⟩,(gQ (A6.grown (aq (aq (aq (aq (aq (aq (aw wr (some g)) _ _) _ _) _ _) _ _) _ _) _ _) (by have:=A6.size;omega) (fun q hq=>by cases hq;omega)) (by omega) _ _ _).drew⟩;rw [HXf.out];refine ⟨g,cp,by simp only [List.length_set];rw [HN.out],?_⟩;simp only [List.length_set];rw [HN.out,js es (fi+pk) _ (by rw [HN.out];omega)];exact aJ (ky (aG (aF (aF (aF (aF (aF (aF HO.out _ _) _ _) _ _) _ _) _ _) _ _) (gb3 _ (w.heap.size+1+1) _ _ _) (by omega))) (by omega)
  ·have hXt:X=⟨sets,ways,es⟩:=by
    rw [<-HX.out];unfold dg;rw [if_neg (by rw [HFB.out];exact hok)]
   have fin:∀v5,v5=v4->TlbOwn w.heap.size (((v5.setCell ⟨w.heap.size+1+1,0,none⟩ (VI sets)).setCell ⟨w.heap.size+1+1,1,none⟩ (VI ways)).setCell ⟨w.heap.size+1+1,2,none⟩ (SL g n cp)) (.agg #[VI sets,VI ways,SL g n cp]) X:=by
    rintro _ rfl;rw [hXt];refine ⟨g,cp,by rw [HN.out],?_⟩;simp only;rw [HN.out];exact aJ (aG O4.out (gb3 _ (w.heap.size+1+1) _ _ _) (by omega)) (by omega)
   have HFin:Hid _:=fin;clear fin hXt;cases FB
   ·go_wp2_with fail;exact bodyPost_ret (v:=.agg #[VI sets,VI ways,SL g n cp]) (by simp [results,Tryz.results156,go_sem,d0,d1,d2]) rfl ⟨⟨_,rfl,(by first | exact HFin.out _ rfl | exact TlbOwn.drew (HFin.out _ rfl))⟩,(by first | exact gQ A4 (by omega) _ _ _ | exact (gQ A4 (by omega) _ _ _).drew)⟩
   ·by_cases hpn:pick<0
    ·go_wp2_with fail;exact bodyPost_ret (v:=.agg #[VI sets,VI ways,SL g n cp]) (by simp [results,Tryz.results156,go_sem,d0,d1,d2]) rfl ⟨⟨_,rfl,(by first | exact HFin.out _ rfl | exact TlbOwn.drew (HFin.out _ rfl))⟩,(by first | exact gQ A4 (by omega) _ _ _ | exact (gQ A4 (by omega) _ _ _).drew)⟩
    ·have hpg:255<pick:=by
      have:=hok;simp at this;omega
     go_wp2_with fail;exact bodyPost_ret (v:=.agg #[VI sets,VI ways,SL g n cp]) (by simp [results,Tryz.results156,go_sem,d0,d1,d2]) rfl ⟨⟨_,rfl,(by first | exact HFin.out _ rfl | exact TlbOwn.drew (HFin.out _ rfl))⟩,(by first | exact gQ A4 (by omega) _ _ _ | exact (gQ A4 (by omega) _ _ _).drew)⟩
end
end Go.Proofs.YtkenjknmfhoppaaGreat
