import Derived.Test.YtaoaifmkhbgaiaaGreatPk10
import Derived.Test.YtaoaifmkhbgaiaaGreatPk11
import Derived.Test.YtaoaifmkhbgaiaaGreatPk06
import Derived.Test.YtaoaifmkhbgaiaaGreatPk07
namespace Go.Proofs.YtaoaifmkhbgaiaaGreat
open Go.RowKit
set_option linter.unusedVariables false
attribute [local go_sem ↓] Go.wp_at_zero Go.wp_at_succ
def bJ (f:FenceM) (k:Nat) (es:List EntM):List EntM:=(es.take k).map (cU f)++es.drop k
theorem jt (f:FenceM) (k:Nat) (es:List EntM):(bJ f k es).length=es.length:=by
 simp [bJ];omega
theorem oL (f:FenceM) (k:Nat) (es:List EntM) (x:EntM) (hx:es[k]?=some x):bJ f (k+1) es=(bJ f k es).set k (cU f x):=by
 obtain ⟨hk,rfl⟩:=List.getElem?_eq_some_iff.1 hx;unfold bJ;apply List.ext_getElem?;intro j;rw [List.getElem?_set];by_cases hj:k=j
 ·subst hj;rw [if_pos rfl,if_pos (by simp;omega),List.getElem?_append_left (by simp;omega)];simp [hk]
 ·rw [if_neg hj];by_cases hlt:j<k
  ·rw [List.getElem?_append_left (by simp;omega),List.getElem?_append_left (by simp;omega)];simp [hlt,show j<k+1 by omega]
  ·rw [List.getElem?_append_right (by simp;omega),List.getElem?_append_right (by simp;omega)];simp;rw [show min (k+1) es.length=k+1 by omega,show min k es.length=k by omega];congr 1;omega
theorem io:∀(l:List EntM) (k:Nat) (e:EntM),k<l.length→aL (l.set k e)=((((((aL l).set (k*6) (.bool e.valid)).set (k*6+1) (.int .i64 e.level)).set (k*6+2) (.int .u64 e.tag)).set (k*6+3) (.int .u64 e.asid)).set (k*6+4) (.bool e.glob)).set (k*6+5) (.int .u64 e.pte)
 | x::r,0,e,h=>by simp [aL,jn]
 | x::r,k+1,e,h=>by
  have ih:=io r k e (by simpa using h);rw [List.set_cons_succ];simp only [aL,ih];rw [show (k+1)*6=(jn x).length+k*6 by simp [jn];omega];simp only [Nat.add_assoc];rw [List.set_append_right _ _ (by simp [jn]),List.set_append_right _ _ (by omega),List.set_append_right _ _ (by omega),List.set_append_right _ _ (by omega),List.set_append_right _ _ (by omega),List.set_append_right _ _ (by omega)];simp
set_option maxRecDepth 20000 in
set_option maxHeartbeats 3200000 in
theorem jC (v:Value) (t:TlbM) (f:FenceM) (w:World) (h:TlbAt w v t) (hf0:0≤f.va) (hf1:f.va≤18446744073709551615):
 Calls Tryz.prog 162 #[v,uk f] w fun e w'=>(∃x,e=.returned x∧TlbOwn w.heap.size w' x (ct t f))∧Below w.heap.size w w':=by
 have HT:Hid (TlbAt w v t):=h;have HOK:Hid (ex t):=TlbAt.ok h;obtain ⟨a,cap,rfl,hr,_,_,_,hl,hlc,hcm,hnil,hsp⟩:=h;obtain ⟨eb,heb⟩:∃eb,cY t=eb:=⟨_,rfl⟩;have HEb:Hid (cY t=eb):=heb;obtain ⟨sets,ways,es⟩:=t;obtain ⟨hv,fva,ha,fa⟩:=f;obtain ⟨n,hn⟩:∃n,es.length=n:=⟨_,rfl⟩;simp only at hr hl hlc hnil hf0 hf1 HT ⊢;have HN:Hid (es.length=n):=hn;rw [hn] at hr hl hlc hnil HT ⊢;obtain ⟨X,hX⟩:∃X,ct ⟨sets,ways,es⟩ ⟨hv,fva,ha,fa⟩=X:=⟨_,rfl⟩;have HX:Hid (ct ⟨sets,ways,es⟩ ⟨hv,fva,ha,fa⟩=X):=hX;rw [hX];have HR0:Hid (RowC w a n 6 (aL es)):=hr;have HLv:Hid (eb=true→∀(j:Nat) x,es[j]?=some x→x.valid=true→0≤x.level∧x.level≤2):=fun h j x hx hv=>dX (t:=⟨sets,ways,es⟩) (heb.trans h) j x hx hv;clear hX;unfold uk;simp only;have n1:=(((Below.refl w.heap.size w).alloc (Nat.le_refl _) (Obj.cells #[.int .i64 sets,.int .i64 ways,.slice a n cap] 28)).alloc (by simp) (Obj.cells #[.bool hv,.int .u64 fva,.bool ha,.int .u64 fa] 38)).alloc (by simp;omega) (Obj.cells #[.int .i64 0,.int .i64 0,.slice none 0 0] 28);have HT1:Hid (TlbAt (((w.alloc (Obj.cells #[.int .i64 sets,.int .i64 ways,.slice a n cap] 28)).alloc (Obj.cells #[.bool hv,.int .u64 fva,.bool ha,.int .u64 fa] 38)).alloc (Obj.cells #[.int .i64 0,.int .i64 0,.slice none 0 0] 28)) (.agg #[.int .i64 sets,.int .i64 ways,.slice a n cap]) ⟨sets,ways,es⟩):=HT.out.keep n1;have HR1:Hid (RowC (((w.alloc (Obj.cells #[.int .i64 sets,.int .i64 ways,.slice a n cap] 28)).alloc (Obj.cells #[.bool hv,.int .u64 fva,.bool ha,.int .u64 fa] 38)).alloc (Obj.cells #[.int .i64 0,.int .i64 0,.slice none 0 0] 28)) a n 6 (aL es)):=hr.keep n1;have H1:Hid ((((w.alloc (Obj.cells #[.int .i64 sets,.int .i64 ways,.slice a n cap] 28)).alloc (Obj.cells #[.bool hv,.int .u64 fva,.bool ha,.int .u64 fa] 38)).alloc (Obj.cells #[.int .i64 0,.int .i64 0,.slice none 0 0] 28)).heap[w.heap.size]?=some (.cells #[.int .i64 sets,.int .i64 ways,.slice a n cap] 28 (0,0))):=by
  show _=_;rw [heap_alloc_old _ _ (by simp;omega),heap_alloc_old _ _ (by simp)];exact heap_alloc_new w _
 have H2:Hid ((((w.alloc (Obj.cells #[.int .i64 sets,.int .i64 ways,.slice a n cap] 28)).alloc (Obj.cells #[.bool hv,.int .u64 fva,.bool ha,.int .u64 fa] 38)).alloc (Obj.cells #[.int .i64 0,.int .i64 0,.slice none 0 0] 28)).heap[w.heap.size+1]?=some (.cells #[.bool hv,.int .u64 fva,.bool ha,.int .u64 fa] 38 (0,0))):=by
  show _=_;rw [heap_alloc_old _ _ (by simp)];have:=heap_alloc_new (w.alloc (Obj.cells #[.int .i64 sets,.int .i64 ways,.slice a n cap] 28)) (Obj.cells #[.bool hv,.int .u64 fva,.bool ha,.int .u64 fa] 38);simp only [World.size_alloc] at this;exact this
 have H3:Hid ((((w.alloc (Obj.cells #[.int .i64 sets,.int .i64 ways,.slice a n cap] 28)).alloc (Obj.cells #[.bool hv,.int .u64 fva,.bool ha,.int .u64 fa] 38)).alloc (Obj.cells #[.int .i64 0,.int .i64 0,.slice none 0 0] 28)).heap[w.heap.size+1+1]?=some (.cells #[.int .i64 0,.int .i64 0,.slice none 0 0] 28 (0,0))):=by
  have:=heap_alloc_new ((w.alloc (Obj.cells #[.int .i64 sets,.int .i64 ways,.slice a n cap] 28)).alloc (Obj.cells #[.bool hv,.int .u64 fva,.bool ha,.int .u64 fa] 38)) (Obj.cells #[.int .i64 0,.int .i64 0,.slice none 0 0] 28);simp only [World.size_alloc] at this;exact this
 have l1:w.heap.size+1+1<(((w.alloc (Obj.cells #[.int .i64 sets,.int .i64 ways,.slice a n cap] 28)).alloc (Obj.cells #[.bool hv,.int .u64 fva,.bool ha,.int .u64 fa] 38)).alloc (Obj.cells #[.int .i64 0,.int .i64 0,.slice none 0 0] 28)).heap.size:=by simp
 clear hr hnil hsp HT heb hn;go_enter Tryz.func162,Tryz.ntmps162;go_wp2_with fail;generalize (((w.alloc (Obj.cells #[.int .i64 sets,.int .i64 ways,.slice a n cap] 28)).alloc (Obj.cells #[.bool hv,.int .u64 fva,.bool ha,.int .u64 fa] 38)).alloc (Obj.cells #[.int .i64 0,.int .i64 0,.slice none 0 0] 28))=v1 at n1 HT1 HR1 H1 H2 H3 l1 ⊢;refine (gx _ ⟨sets,ways,es⟩ v1 HT1.out).mono ?_;rintro e v2 ⟨⟨x,rfl,g,cp,rfl,o2⟩,n2⟩;simp only at o2 ⊢;rw [HN.out] at o2 ⊢;have O2:Hid (v2.ownsRow v1.heap.size 62 6 (.slice (some ⟨g,0,none⟩) n cp) n (aL es)):=o2;have hg:=bI o2;have n12:=Below.step n1 n2 (Nat.le_refl _);have HT2:Hid (TlbAt v2 (.agg #[.int .i64 sets,.int .i64 ways,.slice a n cap]) ⟨sets,ways,es⟩):=HT1.out.keep n2;have HR2:Hid (RowC v2 a n 6 (aL es)):=RowC.keep HR1.out n2;have K1:=ae H1 n2;have K2:=ae H2 n2;have K3:=ae H3 n2;have l2:v1.heap.size≤v2.heap.size:=n2.size;obtain ⟨_,hg1,hg2⟩:=hg;simp only at hg1 hg2;clear o2 n1 n2 HT1 HR1 H1 H2 H3;obtain ⟨⟨c0,c1,c2⟩,_,_,_⟩:=ao K1.out;have s0:w.heap.size<v2.heap.size:=by omega
 go_wp2_with fail;have n3:=(Below.refl v2.heap.size v2).alloc (Nat.le_refl _) (Obj.cells #[.int .i64 sets,.int .i64 ways,.slice (some ⟨g,0,none⟩) n cp] 28);have H4:Hid ((v2.alloc (Obj.cells #[.int .i64 sets,.int .i64 ways,.slice (some ⟨g,0,none⟩) n cp] 28)).heap[v2.heap.size]?=some (.cells #[.int .i64 sets,.int .i64 ways,.slice (some ⟨g,0,none⟩) n cp] 28 (0,0))):=heap_alloc_new v2 _;have l3:v2.heap.size<(v2.alloc (Obj.cells #[.int .i64 sets,.int .i64 ways,.slice (some ⟨g,0,none⟩) n cp] 28)).heap.size:=by simp
 generalize v2.alloc (Obj.cells #[.int .i64 sets,.int .i64 ways,.slice (some ⟨g,0,none⟩) n cp] 28)=v3 at n3 H4 l3 ⊢;have n13:=Below.step n12 n3 (Nat.le_refl _);have HT3:Hid (TlbAt v3 (.agg #[.int .i64 sets,.int .i64 ways,.slice a n cap]) ⟨sets,ways,es⟩):=HT2.out.keep n3;refine (oK _ ⟨sets,ways,es⟩ v3 HT3.out).mono ?_;rw [HEb.out];rintro e v4 ⟨rfl,n4⟩;have n34:=Below.step n3 n4 (Nat.le_refl _);have A4:=Below.step n12 n34 (Nat.le_refl _);have HR4:Hid (RowC v4 a n 6 (aL es)):=RowC.keep HR2.out n34;have O4:Hid (v4.ownsRow v1.heap.size 62 6 (.slice (some ⟨g,0,none⟩) n cp) n (aL es)):=aj O2.out n34;have P1:=ae K1 n34;have P2:=ae K2 n34;have P3:=ae K3 n34;have P4:=ae H4 n4;have l4:v2.heap.size<v4.heap.size:=Nat.lt_of_lt_of_le l3 n4.size;clear c0 c1 c2 n12 n13 n3 n4 n34 HT2 HT3 HR2 O2 K1 K2 K3 H4 l3;obtain ⟨⟨p0,p1,p2⟩,_,_,_⟩:=ao P4.out;cases eb
 ·have hfl:X=⟨sets,ways,es⟩:=by rw [←HX.out];unfold ct;rw [if_neg (by rw [HEb.out];simp)]
  obtain ⟨⟨d0,d1,d2⟩,e0,e1,e2⟩:=ao P3.out;go_wp2_with fail;refine bodyPost_ret (v:=.agg #[.int .i64 sets,.int .i64 ways,.slice (some ⟨g,0,none⟩) n cp]) (by simp [results,Tryz.results162,go_sem,d0,d1,d2]) rfl ⟨⟨_,rfl,?_⟩,eg A4 (by omega) _ _ _⟩;rw [hfl];refine ⟨g,cp,by rw [HN.out],?_⟩;simp only;rw [HN.out];exact aT (bZ O4.out (gb3 v4 (w.heap.size+1+1) _ _ _) (by omega)) (by omega)
 ·have HLv':=HLv.out rfl;have HL2:Hid (∀(j:Nat) x,es[j]?=some x→x.valid=true→0≤x.level∧x.level≤2):=HLv';clear HLv HLv';go_wp2_with fail;go_loopw [6] (fun i wr=>∃k:Nat,k≤n∧i=.int .i64 k∧v4.grownBy wr (some g)∧wr.ownsRow v1.heap.size 62 6 (.slice (some ⟨g,0,none⟩) n cp) n (aL (bJ ⟨hv,fva,ha,fa⟩ k es))) (fun i _=>n-(intOf i).toNat)
  case atStart=>exact ⟨0,Nat.zero_le _,rfl,aE _ _,by rw [show bJ ⟨hv,fva,ha,fa⟩ 0 es=es by simp [bJ]];exact O4.out⟩
  case round=>
   obtain ⟨k,hk,rfl,hn,hO⟩:=hrel;have HO:Hid (wr.ownsRow v1.heap.size 62 6 (.slice (some ⟨g,0,none⟩) n cp) n (aL (bJ ⟨hv,fva,ha,fa⟩ k es))):=hO;have lr:v4.heap.size≤wr.heap.size:=hn.size;clear p0 p1 p2;obtain ⟨⟨p0,p1,p2⟩,_,_,_⟩:=ao (av P4.out hn (by omega));by_cases hlt:k<n
   ·obtain ⟨x,hx⟩:∃x,es[k]?=some x:=⟨_,List.getElem?_eq_getElem (by rw [HN.out];exact hlt)⟩;obtain ⟨b,off,rfl,hb⟩:∃b off,a=some ⟨b,off,none⟩∧b<w.heap.size:=by
     rcases HR0.out.2 with h | ⟨b,off,h,h2,_⟩
     ·omega
     ·exact ⟨b,off,h,h2⟩
    have CE:∀j u,j<6→(jn x)[j]?=some u→wr.cell? ⟨b,off+(k*6+j),none⟩=some u:=fun j u hj hu=>
     oV hn (Below.cell2 A4 (dG HR0.out HN.out k x hx j u hj hu) hb) (by omega) (by omega)
    obtain ⟨vv,lv,tg,asd,gl,pt⟩:=x;have g0:wr.cell? ⟨b,off+k*6,none⟩=some (.bool vv):=CE 0 _ (by omega) rfl;have g1:wr.cell? ⟨b,off+k*6+1,none⟩=some (.int .i64 lv):=CE 1 _ (by omega) rfl;have g2:wr.cell? ⟨b,off+k*6+2,none⟩=some (.int .u64 tg):=CE 2 _ (by omega) rfl;have g3:wr.cell? ⟨b,off+k*6+3,none⟩=some (.int .u64 asd):=CE 3 _ (by omega) rfl;have g4:wr.cell? ⟨b,off+k*6+4,none⟩=some (.bool gl):=CE 4 _ (by omega) rfl;have g5:wr.cell? ⟨b,off+k*6+5,none⟩=some (.int .u64 pt):=CE 5 _ (by omega) rfl;have hok:dq ⟨vv,lv,tg,asd,gl,pt⟩:=HOK.out.1 _ (List.mem_of_getElem? hx);have HNx:Hid (bJ ⟨hv,fva,ha,fa⟩ (k+1) es=(bJ ⟨hv,fva,ha,fa⟩ k es).set k (cU ⟨hv,fva,ha,fa⟩ ⟨vv,lv,tg,asd,gl,pt⟩)):=oL _ k es _ hx;have HSm:Hid ((bJ ⟨hv,fva,ha,fa⟩ k es).set k ⟨vv,lv,tg,asd,gl,pt⟩=bJ ⟨hv,fva,ha,fa⟩ k es):=by
     show _=_;apply List.ext_getElem?;intro j;rw [List.getElem?_set];by_cases hj:k=j
     ·subst hj;rw [if_pos rfl,if_pos (by rw [jt,HN.out];exact hlt)];unfold bJ;have hkl:k≤es.length:=by rw [HN.out];omega
      rw [List.getElem?_append_right (by simp;omega),List.length_map,List.length_take,Nat.min_eq_left hkl,Nat.sub_self,List.getElem?_drop,Nat.add_zero,hx]
     ·rw [if_neg hj]
    have HLx:Hid (vv=true→0≤lv∧lv≤2):=fun h=>HL2.out k _ hx h;obtain ⟨⟨c0,c1,c2⟩,_,_,_⟩:=ao (av P1.out hn (by omega));obtain ⟨⟨f0,f1,f2,f3⟩,_,_,_,_⟩:=aw (av P2.out hn (by omega));have u0:w.heap.size<wr.heap.size:=by omega
    have u1:w.heap.size+1<wr.heap.size:=by omega
    have u2:v2.heap.size<wr.heap.size:=by omega
    have n5:=(Below.refl wr.heap.size wr).alloc (Nat.le_refl _) (Obj.cells #[.bool vv,.int .i64 lv,.int .u64 tg,.int .u64 asd,.bool gl,.int .u64 pt] 62);clear CE hx hO;cases vv
    ·have hst:cU ⟨hv,fva,ha,fa⟩ ⟨false,lv,tg,asd,gl,pt⟩=⟨false,lv,tg,asd,gl,pt⟩:=by simp [cU]
     go_wp2_with fail;go_roundw
     case rel=>exact ⟨k+1,by omega,by go_num,fY hn n5,by rw [HNx.out,hst,HSm.out];exact aj HO.out n5⟩
     case measure=>simp [intOf];omega
    ·obtain ⟨hl0,hl2⟩:=HLx.out rfl;obtain ⟨cb,hcb⟩:∃cb,go ⟨hv,fva,ha,fa⟩ lv tg asd gl=cb:=⟨_,rfl⟩;have HCov:Hid (∀w,Calls Tryz.prog 166 #[.agg #[.bool hv,.int .u64 fva,.bool ha,.int .u64 fa],.int .i64 lv,.int .u64 tg,.int .u64 asd,.bool gl] w fun e w'=>e=.returned (.bool cb)∧Below w.heap.size w w'):=fun w=>by
      have:=ul ⟨hv,fva,ha,fa⟩ lv tg asd gl w hf0 hf1 hl0 hl2;rw [hcb] at this;exact this
     have HCb:Hid (go ⟨hv,fva,ha,fa⟩ lv tg asd gl=cb):=hcb;clear hcb;go_wp2_with fail;generalize wr.alloc (Obj.cells #[.bool true,.int .i64 lv,.int .u64 tg,.int .u64 asd,.bool gl,.int .u64 pt] 62)=v5 at n5 ⊢;refine (HCov.out v5).mono ?_;rintro e v6 ⟨rfl,n6⟩;have n56:=Below.step n5 n6 (Nat.le_refl _);have hn6:=fY hn n56;have HO6:Hid (v6.ownsRow v1.heap.size 62 6 (.slice (some ⟨g,0,none⟩) n cp) n (aL (bJ ⟨hv,fva,ha,fa⟩ k es))):=aj HO.out n56;clear g0 g1 g2 g3 g4 g5 c0 c1 c2 f0 f1 f2 f3 p0 p1 p2 n5 n6 HO hn;obtain ⟨⟨p0,p1,p2⟩,_,_,_⟩:=ao (av P4.out hn6 (by omega));cases cb
     ·have hst:cU ⟨hv,fva,ha,fa⟩ ⟨true,lv,tg,asd,gl,pt⟩=⟨true,lv,tg,asd,gl,pt⟩:=by simp [cU,HCb.out]
      go_wp2_with fail;go_roundw
      case rel=>exact ⟨k+1,by omega,by go_num,hn6,by rw [HNx.out,hst,HSm.out];exact HO6.out⟩
      case measure=>simp [intOf];omega
     ·have hst:cU ⟨hv,fva,ha,fa⟩ ⟨true,lv,tg,asd,gl,pt⟩=cL:=by simp [cU,HCb.out]
      have hcl:(aL (bJ ⟨hv,fva,ha,fa⟩ k es)).length=n*6:=by rw [eB,jt,HN.out]
      have q0:=aI HO6.out (k*6) _ (List.getElem?_eq_getElem (by omega));have q1:=aI HO6.out (k*6+1) _ (List.getElem?_eq_getElem (by omega));have q2:=aI HO6.out (k*6+2) _ (List.getElem?_eq_getElem (by omega));have q3:=aI HO6.out (k*6+3) _ (List.getElem?_eq_getElem (by omega));have q4:=aI HO6.out (k*6+4) _ (List.getElem?_eq_getElem (by omega));have q5:=aI HO6.out (k*6+5) _ (List.getElem?_eq_getElem (by omega));generalize (aL (bJ ⟨hv,fva,ha,fa⟩ k es))[k*6]'_=y0 at q0;generalize (aL (bJ ⟨hv,fva,ha,fa⟩ k es))[k*6+1]'_=y1 at q1;generalize (aL (bJ ⟨hv,fva,ha,fa⟩ k es))[k*6+2]'_=y2 at q2;generalize (aL (bJ ⟨hv,fva,ha,fa⟩ k es))[k*6+3]'_=y3 at q3;generalize (aL (bJ ⟨hv,fva,ha,fa⟩ k es))[k*6+4]'_=y4 at q4;generalize (aL (bJ ⟨hv,fva,ha,fa⟩ k es))[k*6+5]'_=y5 at q5;have r0:=aP HO6.out (k*6);have r1:=aP HO6.out (k*6+1);have r2:=aP HO6.out (k*6+2);have r3:=aP HO6.out (k*6+3);have r4:=aP HO6.out (k*6+4);have r5:=aP HO6.out (k*6+5);go_wp2_with fail;go_roundw
      case rel=>
       refine ⟨k+1,by omega,by go_num,ax (ax (ax (ax (ax (ax hn6 _ _) _ _) _ _) _ _) _ _) _ _,?_⟩;rw [HNx.out,hst,io _ _ _ (by rw [jt,HN.out];exact hlt)];exact aJ (aJ (aJ (aJ (aJ (aJ HO6.out _ _) _ _) _ _) _ _) _ _) _ _
      case measure=>simp [intOf];omega
   ·have hkn:k=n:=by omega
    subst hkn;have hfl:X=⟨sets,ways,es.map (cU ⟨hv,fva,ha,fa⟩)⟩:=by rw [←HX.out];unfold ct;rw [if_pos HEb.out]
    have hsn:bJ ⟨hv,fva,ha,fa⟩ k es=es.map (cU ⟨hv,fva,ha,fa⟩):=by
     have hq:es.length=k:=HN.out;unfold bJ;rw [←hq,List.take_length,List.drop_length,List.append_nil]
    obtain ⟨⟨d0,d1,d2⟩,e0,e1,e2⟩:=ao (av P3.out hn (by omega));go_wp2_with fail;refine bodyPost_ret (v:=.agg #[.int .i64 sets,.int .i64 ways,.slice (some ⟨g,0,none⟩) k cp]) (by simp [results,Tryz.results162,go_sem,d0,d1,d2]) rfl ⟨⟨_,rfl,?_⟩,eg (A4.grown hn (by have:=A4.size;omega) (fun q hq=>by cases hq;omega)) (by omega) _ _ _⟩;rw [hfl];refine ⟨g,cp,by simp only [List.length_map];rw [HN.out],?_⟩;simp only [List.length_map];rw [HN.out,←hsn];exact aT (bZ HO.out (gb3 wr (w.heap.size+1+1) _ _ _) (by omega)) (by omega)
end Go.Proofs.YtaoaifmkhbgaiaaGreat
