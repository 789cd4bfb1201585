import Derived.Test.YtfgogedgolgnaaaEk09
import Derived.Test.YtfgogedgolgnaaaEk06
namespace Go.Proofs.Ytfgogedgolgnaaa
open Go.RowKit
set_option linter.unusedVariables false
set_option maxHeartbeats 6400000
set_option maxRecDepth 20000
section
attribute [local go_sem ↓] Go.wp_at_zero Go.wp_at_succ
theorem cU {v:World} {p:Nat} {T:TypeId} {a b c d e f:Value} (h:v.heap[p]?=some (.cells #[a,b,c,d,e,f] T (0,0))):
 v.cell? ⟨p,0,none⟩=some a∧v.cell? ⟨p,1,none⟩=some b∧v.cell? ⟨p,2,none⟩=some c∧v.cell? ⟨p,3,none⟩=some d∧v.cell? ⟨p,4,none⟩=some e∧v.cell? ⟨p,5,none⟩=some f:=by
 simp [World.cell?,h]
theorem TlbOwn.drew {base:Nat} {w:World} {v:Value} {t:TlbM} (h:TlbOwn base w v t):TlbOwn base w.drew v t:=h
theorem co (es:List EntM) (first:Nat):∀(left w k:Nat),k<left->(∀j,j<k->(es[first+(w+j)]?.getD aC).valid=true)->(es[first+(w+k)]?.getD aC).valid=false->cB es first w left=some (w+k)
 | 0,w,k,h,_,_=>by omega
 | left+1,w,0,h,h1,h2=>by
  rw [cB,if_pos (by simpa using h2)];rfl
 | left+1,w,k+1,h,h1,h2=>by
  rw [cB,if_neg (by have:=h1 0 (by omega);simp at this;rw [this];simp)];rw [co es first left (w+1) k (by omega) (fun j hj=>by rw [show w+1+j=w+(j+1) by omega];exact h1 (j+1) (by omega)) (by rw [show w+1+k=w+(k+1) by omega];exact h2)];congr 1;omega
theorem cq (es:List EntM) (first:Nat):∀(left w:Nat),(∀j,j<left->(es[first+(w+j)]?.getD aC).valid=true)->cB es first w left=none
 | 0,w,h=>rfl
 | left+1,w,h=>by
  rw [cB,if_neg (by have:=h 0 (by omega);simp at this;rw [this];simp)];exact cq es first left (w+1) (fun j hj=>by rw [show w+1+j=w+(j+1) by omega];exact h (j+1) (by omega))
theorem dw (v:Value) (t:TlbM) (x:EntM) (pick:Int) (w:World) (h:TlbAt w v t) (hx:aO x):
 Calls Try.prog 16 #[v,bQ x,.int .i64 pick] w fun e w'=>(∃y,e=.returned y∧TlbOwn w.heap.size w' y (bs t x pick))∧Below w.heap.size w w':=by
 have HT:Hid (TlbAt w v t):=h;have HOK:Hid (bZ t):=TlbAt.ok h;obtain ⟨a,cap,rfl,hr,_,_,_,hl,hlc,hcm,hnil,hsp⟩:=h;obtain ⟨sets,ways,es⟩:=t;obtain ⟨vv,lv,tg,asd,gl,pt⟩:=x;obtain ⟨n,hn⟩:∃n,es.length=n:=⟨_,rfl⟩;simp only at hr hl hlc hnil HT |-;have HN:Hid (es.length=n):=hn;rw [hn] at hr hl hlc hnil HT |-;obtain ⟨X,hX⟩:∃X,bs ⟨sets,ways,es⟩ ⟨vv,lv,tg,asd,gl,pt⟩ pick=X:=⟨_,rfl⟩;have HX:Hid (bs ⟨sets,ways,es⟩ ⟨vv,lv,tg,asd,gl,pt⟩ pick=X):=hX;rw [hX];have HR0:Hid (RowC w a n 6 (ad es)):=hr;obtain ⟨q1,hq1⟩:∃q,an ⟨sets,ways,es⟩ true=q:=⟨_,rfl⟩;obtain ⟨q2,hq2⟩:∃q,an ⟨sets,ways,es⟩ false=q:=⟨_,rfl⟩;obtain ⟨q3,hq3⟩:∃q,ak ⟨vv,lv,tg,asd,gl,pt⟩ true=q:=⟨_,rfl⟩;obtain ⟨q4,hq4⟩:∃q,ak ⟨vv,lv,tg,asd,gl,pt⟩ false=q:=⟨_,rfl⟩;have HFi:Hid (ct ⟨sets,ways,es⟩ ⟨vv,lv,tg,asd,gl,pt⟩=((q1 && q3) || (q2 && q4))):=by show _=_;rw [ct,hq1,hq2,hq3,hq4]
 have HQ:Hid (an ⟨sets,ways,es⟩ true=q1∧an ⟨sets,ways,es⟩ false=q2):=⟨hq1,hq2⟩;have HG:Hid (∀p w,Calls Try.prog 30 #[.agg #[.bool vv,.int .i64 lv,.int .u64 tg,.int .u64 asd,.bool gl,.int .u64 pt],.bool p] w fun e w'=>e=.returned (.bool (cond p q3 q4))∧Below w.heap.size w w'):=fun p w=>by
  have:=bj ⟨vv,lv,tg,asd,gl,pt⟩ p w hx;cases p
  ·rw [hq4] at this;exact this
  ·rw [hq3] at this;exact this
 have HV:Hid (∀p w,TlbAt w (.agg #[.int .i64 sets,.int .i64 ways,.slice a n cap]) ⟨sets,ways,es⟩->Calls Try.prog 9 #[.agg #[.int .i64 sets,.int .i64 ways,.slice a n cap],.bool p] w fun e w'=>e=.returned (.bool (cond p q1 q2))∧Below w.heap.size w w'):=fun p w h=>by
  have:=bF _ _ p w h;cases p
  ·rw [hq2] at this;exact this
  ·rw [hq1] at this;exact this
 unfold bQ;simp only;have n1:=(((Below.refl w.heap.size w).alloc (Nat.le_refl _) (Obj.cells #[.int .i64 sets,.int .i64 ways,.slice a n cap] 29)).alloc (by simp) (Obj.cells #[.bool vv,.int .i64 lv,.int .u64 tg,.int .u64 asd,.bool gl,.int .u64 pt] 42)).alloc (by simp;omega) (Obj.cells #[.int .i64 0,.int .i64 0,.slice none 0 0] 29);have HT1:Hid (TlbAt (((w.alloc (Obj.cells #[.int .i64 sets,.int .i64 ways,.slice a n cap] 29)).alloc (Obj.cells #[.bool vv,.int .i64 lv,.int .u64 tg,.int .u64 asd,.bool gl,.int .u64 pt] 42)).alloc (Obj.cells #[.int .i64 0,.int .i64 0,.slice none 0 0] 29)) (.agg #[.int .i64 sets,.int .i64 ways,.slice a n cap]) ⟨sets,ways,es⟩):=HT.out.keep n1;have H1:Hid ((((w.alloc (Obj.cells #[.int .i64 sets,.int .i64 ways,.slice a n cap] 29)).alloc (Obj.cells #[.bool vv,.int .i64 lv,.int .u64 tg,.int .u64 asd,.bool gl,.int .u64 pt] 42)).alloc (Obj.cells #[.int .i64 0,.int .i64 0,.slice none 0 0] 29)).heap[w.heap.size]?=some (.cells #[.int .i64 sets,.int .i64 ways,.slice a n cap] 29 (0,0))):=by
  show _=_;rw [heap_alloc_old _ _ (by simp;omega),heap_alloc_old _ _ (by simp)];exact heap_alloc_new w _
 have H2:Hid ((((w.alloc (Obj.cells #[.int .i64 sets,.int .i64 ways,.slice a n cap] 29)).alloc (Obj.cells #[.bool vv,.int .i64 lv,.int .u64 tg,.int .u64 asd,.bool gl,.int .u64 pt] 42)).alloc (Obj.cells #[.int .i64 0,.int .i64 0,.slice none 0 0] 29)).heap[w.heap.size+1]?=some (.cells #[.bool vv,.int .i64 lv,.int .u64 tg,.int .u64 asd,.bool gl,.int .u64 pt] 42 (0,0))):=by
  show _=_;rw [heap_alloc_old _ _ (by simp)];have:=heap_alloc_new (w.alloc (Obj.cells #[.int .i64 sets,.int .i64 ways,.slice a n cap] 29)) (Obj.cells #[.bool vv,.int .i64 lv,.int .u64 tg,.int .u64 asd,.bool gl,.int .u64 pt] 42);simp only [World.size_alloc] at this;exact this
 have H3:Hid ((((w.alloc (Obj.cells #[.int .i64 sets,.int .i64 ways,.slice a n cap] 29)).alloc (Obj.cells #[.bool vv,.int .i64 lv,.int .u64 tg,.int .u64 asd,.bool gl,.int .u64 pt] 42)).alloc (Obj.cells #[.int .i64 0,.int .i64 0,.slice none 0 0] 29)).heap[w.heap.size+1+1]?=some (.cells #[.int .i64 0,.int .i64 0,.slice none 0 0] 29 (0,0))):=by
  have:=heap_alloc_new ((w.alloc (Obj.cells #[.int .i64 sets,.int .i64 ways,.slice a n cap] 29)).alloc (Obj.cells #[.bool vv,.int .i64 lv,.int .u64 tg,.int .u64 asd,.bool gl,.int .u64 pt] 42)) (Obj.cells #[.int .i64 0,.int .i64 0,.slice none 0 0] 29);simp only [World.size_alloc] at this;exact this
 have l1:w.heap.size+1+1<(((w.alloc (Obj.cells #[.int .i64 sets,.int .i64 ways,.slice a n cap] 29)).alloc (Obj.cells #[.bool vv,.int .i64 lv,.int .u64 tg,.int .u64 asd,.bool gl,.int .u64 pt] 42)).alloc (Obj.cells #[.int .i64 0,.int .i64 0,.slice none 0 0] 29)).heap.size:=by simp
 clear hr hnil hsp HT hn hX hq1 hq2 hq3 hq4;go_enter Try.func16,Try.ntmps16;go_wp2_with fail;generalize (((w.alloc (Obj.cells #[.int .i64 sets,.int .i64 ways,.slice a n cap] 29)).alloc (Obj.cells #[.bool vv,.int .i64 lv,.int .u64 tg,.int .u64 asd,.bool gl,.int .u64 pt] 42)).alloc (Obj.cells #[.int .i64 0,.int .i64 0,.slice none 0 0] 29))=v1 at n1 HT1 H1 H2 H3 l1 |-;refine (dr _ ⟨sets,ways,es⟩ v1 HT1.out).mono ?_;rintro e v2 ⟨⟨x,rfl,g,cp,rfl,o2⟩,n2⟩;simp only at o2 |-;rw [HN.out] at o2 |-;have O2:Hid (v2.ownsRow v1.heap.size 42 6 (.slice (some ⟨g,0,none⟩) n cp) n (ad es)):=o2;have hg:=aw o2;have A2:=Below.step n1 n2 (Nat.le_refl _);have HT2:Hid (TlbAt v2 (.agg #[.int .i64 sets,.int .i64 ways,.slice a n cap]) ⟨sets,ways,es⟩):=HT1.out.keep n2;have K1:=ab H1 n2;have K2:=ab H2 n2;have K3:=ab H3 n2;have l2:v1.heap.size<=v2.heap.size:=n2.size;obtain ⟨_,hg1,hg2⟩:=hg;simp only at hg1 hg2;clear o2 n1 n2 HT1 H1 H2 H3;go_upto_region 2 with fail;have n3:=(Below.refl v2.heap.size v2).alloc (Nat.le_refl _) (Obj.cells #[.int .i64 sets,.int .i64 ways,.slice (some ⟨g,0,none⟩) n cp] 29);have H4:Hid ((v2.alloc (Obj.cells #[.int .i64 sets,.int .i64 ways,.slice (some ⟨g,0,none⟩) n cp] 29)).heap[v2.heap.size]?=some (.cells #[.int .i64 sets,.int .i64 ways,.slice (some ⟨g,0,none⟩) n cp] 29 (0,0))):=heap_alloc_new v2 _;have l3:v2.heap.size<(v2.alloc (Obj.cells #[.int .i64 sets,.int .i64 ways,.slice (some ⟨g,0,none⟩) n cp] 29)).heap.size:=by simp
 generalize v2.alloc (Obj.cells #[.int .i64 sets,.int .i64 ways,.slice (some ⟨g,0,none⟩) n cp] 29)=v3 at n3 H4 l3 |-;have A3:=Below.step A2 n3 (Nat.le_refl _);have HT3:Hid (∀v,Below v3.heap.size v3 v->TlbAt v (.agg #[.int .i64 sets,.int .i64 ways,.slice a n cap]) ⟨sets,ways,es⟩):=fun v hv=>(HT2.out.keep n3).keep hv;have O3:Hid (v3.ownsRow v1.heap.size 42 6 (.slice (some ⟨g,0,none⟩) n cp) n (ad es)):=ah O2.out n3;have P1:=ab K1 n3;have P2:=ab K2 n3;have P3:=ab K3 n3;clear n3 HT2 O2 K1 K2 K3 A2;have HC:Hid (∀v,Below v3.heap.size v3 v->(v.cell? ⟨w.heap.size,0,none⟩=some (.int .i64 sets)∧v.cell? ⟨w.heap.size,1,none⟩=some (.int .i64 ways)∧v.cell? ⟨w.heap.size,2,none⟩=some (.slice a n cap))∧
  v.cell? ⟨w.heap.size+1,0,none⟩=some (.bool vv)∧v.cell? ⟨w.heap.size+1,1,none⟩=some (.int .i64 lv)∧v.cell? ⟨w.heap.size+1,2,none⟩=some (.int .u64 tg)∧v.cell? ⟨w.heap.size+1,3,none⟩=some (.int .u64 asd)∧v.cell? ⟨w.heap.size+1,4,none⟩=some (.bool gl)∧v.cell? ⟨w.heap.size+1,5,none⟩=some (.int .u64 pt)):=
  fun v hv=>⟨(aa (aF P1.out hv (by omega))).1,cU (aF P2.out hv (by omega))⟩
 have bl:Below v3.heap.size v3 v3:=Below.refl _ _;obtain ⟨FB,hFB⟩:∃FB,((q1 && q3) || (q2 && q4))=FB:=⟨_,rfl⟩;go_cut [8] (fun s8 wx=>s8=.bool FB∧Below v3.heap.size v3 wx)
 case first=>
  obtain ⟨⟨c0,c1,c2⟩,f0,f1,f2,f3,f4,f5⟩:=HC.out v3 bl;cases q1
  ·cases q2 <;> cases q4;all_goals
    go_wp2_with (first
    | (go_at_call 9;refine (HV.out _ _ (HT3.out _ bl)).mono ?_;rintro e vz ⟨rfl,nz⟩;dsimp only [cond];replace bl:=Below.step bl nz (Nat.le_refl _);clear c0 c1 c2 f0 f1 f2 f3 f4 f5;have cc:=HC.out _ bl;obtain ⟨⟨c0,c1,c2⟩,f0,f1,f2,f3,f4,f5⟩:=cc)
    | (go_at_call 30;refine (HG.out _ _).mono ?_;rintro e vz ⟨rfl,nz⟩;dsimp only [cond];replace bl:=Below.step bl nz (Nat.le_refl _);clear c0 c1 c2 f0 f1 f2 f3 f4 f5;have cc:=HC.out _ bl;obtain ⟨⟨c0,c1,c2⟩,f0,f1,f2,f3,f4,f5⟩:=cc))
    go_meet;exact ⟨by rw [<-hFB];rfl,bl⟩
  ·cases q3
   ·cases q2 <;> cases q4;all_goals
     go_wp2_with (first
     | (go_at_call 9;refine (HV.out _ _ (HT3.out _ bl)).mono ?_;rintro e vz ⟨rfl,nz⟩;dsimp only [cond];replace bl:=Below.step bl nz (Nat.le_refl _);clear c0 c1 c2 f0 f1 f2 f3 f4 f5;have cc:=HC.out _ bl;obtain ⟨⟨c0,c1,c2⟩,f0,f1,f2,f3,f4,f5⟩:=cc)
     | (go_at_call 30;refine (HG.out _ _).mono ?_;rintro e vz ⟨rfl,nz⟩;dsimp only [cond];replace bl:=Below.step bl nz (Nat.le_refl _);clear c0 c1 c2 f0 f1 f2 f3 f4 f5;have cc:=HC.out _ bl;obtain ⟨⟨c0,c1,c2⟩,f0,f1,f2,f3,f4,f5⟩:=cc))
     go_meet;exact ⟨by rw [<-hFB];rfl,bl⟩
   ·go_wp2_with (first
    | (go_at_call 9;refine (HV.out _ _ (HT3.out _ bl)).mono ?_;rintro e vz ⟨rfl,nz⟩;dsimp only [cond];replace bl:=Below.step bl nz (Nat.le_refl _);clear c0 c1 c2 f0 f1 f2 f3 f4 f5;have cc:=HC.out _ bl;obtain ⟨⟨c0,c1,c2⟩,f0,f1,f2,f3,f4,f5⟩:=cc)
    | (go_at_call 30;refine (HG.out _ _).mono ?_;rintro e vz ⟨rfl,nz⟩;dsimp only [cond];replace bl:=Below.step bl nz (Nat.le_refl _);clear c0 c1 c2 f0 f1 f2 f3 f4 f5;have cc:=HC.out _ bl;obtain ⟨⟨c0,c1,c2⟩,f0,f1,f2,f3,f4,f5⟩:=cc))
    go_meet;exact ⟨by rw [<-hFB];rfl,bl⟩
 case rest=>
  obtain ⟨rfl,m⟩:=hcut;generalize wc=v4 at m |-;have A4:=Below.step A3 m (Nat.le_refl _);have O4:Hid (v4.ownsRow v1.heap.size 42 6 (.slice (some ⟨g,0,none⟩) n cp) n (ad es)):=ah O3.out m;have R1:=ab P1 m;have R2:=ab P2 m;have R3:=ab P3 m;have R4:=ab H4 m;have l4:v3.heap.size<=v4.heap.size:=m.size;have HFB:Hid (ct ⟨sets,ways,es⟩ ⟨vv,lv,tg,asd,gl,pt⟩=FB):=HFi.out.trans hFB;clear HFi hFB HC HT3 HG HV P1 P2 P3 H4 O3 A3 m bl;obtain ⟨⟨p0,p1,p2⟩,_,_,_⟩:=aa R4.out;obtain ⟨⟨d0,d1,d2⟩,e0,e1,e2⟩:=aa R3.out;by_cases hok:FB=true∧0<=pick∧pick<=255
  ·obtain ⟨rfl,hp0,hp1⟩:=hok;obtain ⟨pp,hvp,hgp⟩:∃pp,an ⟨sets,ways,es⟩ pp=true∧ak ⟨vv,lv,tg,asd,gl,pt⟩ pp=true:=by
    have:=HFB.out;simp only [ct,Bool.or_eq_true,Bool.and_eq_true] at this;rcases this with ⟨h1,h2⟩ | ⟨h1,h2⟩
    ·exact ⟨true,h1,h2⟩
    ·exact ⟨false,h1,h2⟩
   obtain ⟨hs,hw,hw',hnw⟩:=cC hvp;simp only at hs hw hw' hnw;rw [HN.out] at hnw;have htg:tg<512:=cA hgp;have htg0:0<=tg:=hx.2.1.1;have HXe:Hid (X=⟨sets,ways,es.set (aX ⟨sets,ways,es⟩ ⟨vv,lv,tg,asd,gl,pt⟩+bK ⟨sets,ways,es⟩ ⟨vv,lv,tg,asd,gl,pt⟩ pick) ⟨vv,lv,tg,asd,gl,pt⟩⟩):=by
    show _=_;rw [<-HX.out];unfold bs;rw [if_pos ⟨HFB.out,hp0,hp1⟩]
   obtain ⟨⟨c0,c1,c2⟩,_,_,_⟩:=aa R1.out;obtain ⟨f0,f1,f2,f3,f4,f5⟩:=cU R2.out;have hf1:=eC (t:=⟨sets,ways,es⟩) (e:=⟨vv,lv,tg,asd,gl,pt⟩) htg0 hs hw;simp only at hf1;have HIx:=fun pk=>fS (t:=⟨sets,ways,es⟩) (e:=⟨vv,lv,tg,asd,gl,pt⟩) (pick:=pk) hvp htg0;obtain ⟨fi,hfi⟩:∃fi,aX ⟨sets,ways,es⟩ ⟨vv,lv,tg,asd,gl,pt⟩=fi:=⟨_,rfl⟩;have HFi:Hid (aX ⟨sets,ways,es⟩ ⟨vv,lv,tg,asd,gl,pt⟩=fi):=hfi;rw [hfi] at hf1;have hfb:(fi:Int)+ways<=n:=by
    have h3:tg%sets<sets:=Int.emod_lt_of_pos _ (by omega);have h5:(tg%sets+1)*ways<=sets*ways:=Int.mul_le_mul_of_nonneg_right (by omega) (by omega);rw [Int.add_mul] at h5;omega
   have HF1:Hid ((fi:Int)=tg%sets*ways):=hf1;have HWr:Hid (wrap64 (tg%sets*ways)=(fi:Int)):=by
    show _=_;rw [<-hf1];unfold wrap64;omega
   clear hfi HIx hf1;go_upto_region 5 with fail;go_cut [9] (fun s9 wx=>s9=.int .i64 fi∧∃q,wx=v4.drewN q)
   case first=>
    rcases hs with rfl | rfl | rfl | rfl;all_goals
     go_quiet (fail);go_wp2_with fail;go_meet;exact ⟨by first | rw [HWr.out] | (rw [HF1.out] <;> simp),nq,rfl⟩
   case rest=>
    obtain ⟨rfl,qd,rfl⟩:=hcut;have A5:Below w.heap.size w (v4.drewN qd):=below_drewN A4 qd;have O5:Hid ((v4.drewN qd).ownsRow v1.heap.size 42 6 (.slice (some ⟨g,0,none⟩) n cp) n (ad es)):=O4;have S1:Hid ((v4.drewN qd).heap[w.heap.size]?=_):=R1;have S2:Hid ((v4.drewN qd).heap[w.heap.size+1]?=_):=R2;have S3:Hid ((v4.drewN qd).heap[w.heap.size+1+1]?=_):=R3;have S4:Hid ((v4.drewN qd).heap[v2.heap.size]?=_):=R4;have l5:v3.heap.size<=(v4.drewN qd).heap.size:=l4;generalize v4.drewN qd=v5 at A5 O5 S1 S2 S3 S4 l5 |-;clear O4 R1 R2 R3 R4 l4 A4 c0 c1 c2 f0 f1 f2 f3 f4 f5 p0 p1 p2 d0 d1 d2 e0 e1 e2;go_wp2_with fail;go_loopw [10] (fun i wr=>∃k:Nat,(k:Int)<=ways∧i=.int .i64 k∧(∀j,j<k->(es[fi+j]?.getD aC).valid=true)∧Below v5.heap.size v5 wr) (fun i _=>ways.toNat-(intOf i).toNat)
    case atStart=>exact ⟨0,by omega,rfl,fun j hj=>absurd hj (by omega),Below.refl _ _⟩
    case round=>
     obtain ⟨k,hk,rfl,hall,hb⟩:=hrel;have HAll:Hid (∀j,j<k->(es[fi+j]?.getD aC).valid=true):=hall;have HO:Hid (wr.ownsRow v1.heap.size 42 6 (.slice (some ⟨g,0,none⟩) n cp) n (ad es)):=ah O5.out hb;have A6:=Below.step A5 hb (Nat.le_refl _);have lr:v3.heap.size<=wr.heap.size:=Nat.le_trans l5 hb.size;obtain ⟨⟨c0,c1,c2⟩,_,_,_⟩:=aa (aF S1.out hb (by omega));obtain ⟨f0,f1,f2,f3,f4,f5⟩:=cU (aF S2.out hb (by omega));obtain ⟨⟨d0,d1,d2⟩,e0,e1,e2⟩:=aa (aF S3.out hb (by omega));obtain ⟨⟨p0,p1,p2⟩,_,_,_⟩:=aa (aF S4.out hb (by omega));clear hall;by_cases hlt:(k:Int)<ways
     ·obtain ⟨x,hx'⟩:∃x,es[fi+k]?=some x:=⟨_,List.getElem?_eq_getElem (by rw [HN.out];omega)⟩;obtain ⟨b,off,rfl,hbb⟩:∃b off,a=some ⟨b,off,none⟩∧b<w.heap.size:=by
       rcases HR0.out.2 with h | ⟨b,off,h,h2,_⟩
       ·omega
       ·exact ⟨b,off,h,h2⟩
      have CE:∀j u,j<6->(bx x)[j]?=some u->wr.cell? ⟨b,off+((fi+k)*6+j),none⟩=some u:=fun j u hj hu=>
       Below.cell2 A6 (av HR0.out HN.out (fi+k) x hx' j u hj hu) hbb
      obtain ⟨xv,x1,x2,x3,x4,x5⟩:=x;have g0:wr.cell? ⟨b,off+(fi+k)*6,none⟩=some (.bool xv):=CE 0 _ (by omega) rfl;have g1:wr.cell? ⟨b,off+(fi+k)*6+1,none⟩=some (.int .i64 x1):=CE 1 _ (by omega) rfl;have g2:wr.cell? ⟨b,off+(fi+k)*6+2,none⟩=some (.int .u64 x2):=CE 2 _ (by omega) rfl;have g3:wr.cell? ⟨b,off+(fi+k)*6+3,none⟩=some (.int .u64 x3):=CE 3 _ (by omega) rfl;have g4:wr.cell? ⟨b,off+(fi+k)*6+4,none⟩=some (.bool x4):=CE 4 _ (by omega) rfl;have g5:wr.cell? ⟨b,off+(fi+k)*6+5,none⟩=some (.int .u64 x5):=CE 5 _ (by omega) rfl;have HXv:Hid ((es[fi+k]?.getD aC).valid=xv):=by show _=_;rw [hx'];rfl
      clear CE hx';cases xv
      ·have HXf:Hid (X=⟨sets,ways,es.set (fi+k) ⟨vv,lv,tg,asd,gl,pt⟩⟩):=by
        show _=_;rw [HXe.out,HFi.out];have:bK ⟨sets,ways,es⟩ ⟨vv,lv,tg,asd,gl,pt⟩ pick=k:=by
         unfold bK;simp only;rw [HFi.out,co es fi ways.toNat 0 k (by omega) (fun j hj=>by rw [Nat.zero_add];exact HAll.out j hj) (by rw [Nat.zero_add];exact HXv.out)];simp
        rw [this]
       have hcl:(ad es).length=n*6:=by rw [aQ,HN.out]
       have y0:=ae HO.out ((fi+k)*6) _ (List.getElem?_eq_getElem (by omega));have y1:=ae HO.out ((fi+k)*6+1) _ (List.getElem?_eq_getElem (by omega));have y2:=ae HO.out ((fi+k)*6+2) _ (List.getElem?_eq_getElem (by omega));have y3:=ae HO.out ((fi+k)*6+3) _ (List.getElem?_eq_getElem (by omega));have y4:=ae HO.out ((fi+k)*6+4) _ (List.getElem?_eq_getElem (by omega));have y5:=ae HO.out ((fi+k)*6+5) _ (List.getElem?_eq_getElem (by omega));generalize (ad es)[(fi+k)*6]'_=z0 at y0;generalize (ad es)[(fi+k)*6+1]'_=z1 at y1;generalize (ad es)[(fi+k)*6+2]'_=z2 at y2;generalize (ad es)[(fi+k)*6+3]'_=z3 at y3;generalize (ad es)[(fi+k)*6+4]'_=z4 at y4;generalize (ad es)[(fi+k)*6+5]'_=z5 at y5;have r0:=ag HO.out ((fi+k)*6);have r1:=ag HO.out ((fi+k)*6+1);have r2:=ag HO.out ((fi+k)*6+2);have r3:=ag HO.out ((fi+k)*6+3);have r4:=ag HO.out ((fi+k)*6+4);have r5:=ag HO.out ((fi+k)*6+5);clear hcl;go_wp2_with fail;refine bodyPost_ret (v:=.agg #[.int .i64 sets,.int .i64 ways,.slice (some ⟨g,0,none⟩) n cp]) (by simp [results,Try.results16,go_sem,d0,d1,d2]) rfl ⟨⟨_,rfl,?_⟩,aS (A6.grown (ap (ap (ap (ap (ap (ap (bi wr (some g)) _ _) _ _) _ _) _ _) _ _) _ _) (by have:=A6.size;omega) (fun q hq=>by cases hq;omega)) (by omega) _ _ _⟩;rw [HXf.out];refine ⟨g,cp,by simp only [List.length_set];rw [HN.out],?_⟩;simp only [List.length_set];rw [HN.out,bT es (fi+k) _ (by rw [HN.out];omega)];exact aD (aR (ac (ac (ac (ac (ac (ac HO.out _ _) _ _) _ _) _ _) _ _) _ _) (gb3 _ (w.heap.size+1+1) _ _ _) (by omega)) (by omega)
      ·go_wp2_with fail;go_roundw
       case rel=>exact ⟨k+1,by omega,by go_num,fun j hj=>by
        by_cases e:j=k
        ·subst e;exact HXv.out
        ·exact HAll.out j (by omega),hb⟩
       case measure=>simp [intOf];omega
     ·have hkw:(k:Int)=ways:=by omega
      obtain ⟨pk,hpk⟩:=Int.eq_ofNat_of_zero_le (Int.emod_nonneg pick (show ways≠0 by omega));have hpk':(pk:Int)<ways:=by rw [<-hpk];exact Int.emod_lt_of_pos _ (by omega)
      have HXf:Hid (X=⟨sets,ways,es.set (fi+pk) ⟨vv,lv,tg,asd,gl,pt⟩⟩):=by
       show _=_;rw [HXe.out,HFi.out];have:bK ⟨sets,ways,es⟩ ⟨vv,lv,tg,asd,gl,pt⟩ pick=pk:=by
        unfold bK;simp only;rw [HFi.out,cq es fi ways.toNat 0 (fun j hj=>by rw [Nat.zero_add];exact HAll.out j (by omega)),hpk];simp
       rw [this]
      have hcl:(ad es).length=n*6:=by rw [aQ,HN.out]
      have y0:=ae HO.out ((fi+pk)*6) _ (List.getElem?_eq_getElem (by omega));have y1:=ae HO.out ((fi+pk)*6+1) _ (List.getElem?_eq_getElem (by omega));have y2:=ae HO.out ((fi+pk)*6+2) _ (List.getElem?_eq_getElem (by omega));have y3:=ae HO.out ((fi+pk)*6+3) _ (List.getElem?_eq_getElem (by omega));have y4:=ae HO.out ((fi+pk)*6+4) _ (List.getElem?_eq_getElem (by omega));have y5:=ae HO.out ((fi+pk)*6+5) _ (List.getElem?_eq_getElem (by omega));generalize (ad es)[(fi+pk)*6]'_=z0 at y0;generalize (ad es)[(fi+pk)*6+1]'_=z1 at y1;generalize (ad es)[(fi+pk)*6+2]'_=z2 at y2;generalize (ad es)[(fi+pk)*6+3]'_=z3 at y3;generalize (ad es)[(fi+pk)*6+4]'_=z4 at y4;generalize (ad es)[(fi+pk)*6+5]'_=z5 at y5;have r0:=ag HO.out ((fi+pk)*6);have r1:=ag HO.out ((fi+pk)*6+1);have r2:=ag HO.out ((fi+pk)*6+2);have r3:=ag HO.out ((fi+pk)*6+3);have r4:=ag HO.out ((fi+pk)*6+4);have r5:=ag HO.out ((fi+pk)*6+5);clear hcl;have hrem:pick.tmod ways=(pk:Int):=by rw [Int.tmod_eq_emod_of_nonneg hp0];exact hpk
      have hwz:ways≠0:=by omega
      clear hpk;have i1:g≠w.heap.size:=by omega
      have i2:w.heap.size≠g:=by omega
      have i3:g≠w.heap.size+1:=by omega
      have i4:w.heap.size+1≠g:=by omega
      have i5:g≠v2.heap.size:=by omega
      have i6:v2.heap.size≠g:=by omega
      go_wp2_with fail;have t1:IntKind.i64.wrap ((fi:Int)+(pk:Int))=(fi:Int)+pk:=by
       rw [IntKind.wrap_i64];omega
      have t2:(0:Int)<=(fi:Int)+pk:=by omega
      have t3:(fi:Int)+pk<n:=by omega
      go_region_held (fun w'=>w'.cell? ⟨v2.heap.size,2,none⟩=some (.slice (some ⟨g,0,none⟩) n cp)∧w'.cell? ⟨w.heap.size,1,none⟩=some (.int .i64 ways)∧w'.cell? ⟨w.heap.size+1,0,none⟩=some (.bool vv)∧w'.cell? ⟨w.heap.size+1,1,none⟩=some (.int .i64 lv)∧w'.cell? ⟨w.heap.size+1,2,none⟩=some (.int .u64 tg)∧w'.cell? ⟨w.heap.size+1,3,none⟩=some (.int .u64 asd)∧w'.cell? ⟨w.heap.size+1,4,none⟩=some (.bool gl)∧w'.cell? ⟨w.heap.size+1,5,none⟩=some (.int .u64 pt)) (go_keep) (fail);go_wp2_with fail;refine bodyPost_ret (v:=.agg #[.int .i64 sets,.int .i64 ways,.slice (some ⟨g,0,none⟩) n cp]) (by simp [results,Try.results16,go_sem,d0,d1,d2]) rfl ⟨⟨_,rfl,?_⟩,(aS (A6.grown (ap (ap (ap (ap (ap (ap (bi wr (some g)) _ _) _ _) _ _) _ _) _ _) _ _) (by have:=A6.size;omega) (fun q hq=>by cases hq;omega)) (by omega) _ _ _).drew⟩;rw [HXf.out];refine ⟨g,cp,by simp only [List.length_set];rw [HN.out],?_⟩;simp only [List.length_set];rw [HN.out,bT es (fi+pk) _ (by rw [HN.out];omega)];exact aD (bV (aR (ac (ac (ac (ac (ac (ac HO.out _ _) _ _) _ _) _ _) _ _) _ _) (gb3 _ (w.heap.size+1+1) _ _ _) (by omega))) (by omega)
  ·have hXt:X=⟨sets,ways,es⟩:=by
    rw [<-HX.out];unfold bs;rw [if_neg (by rw [HFB.out];exact hok)]
   have fin:∀v5,v5=v4->TlbOwn w.heap.size (((v5.setCell ⟨w.heap.size+1+1,0,none⟩ (.int .i64 sets)).setCell ⟨w.heap.size+1+1,1,none⟩ (.int .i64 ways)).setCell ⟨w.heap.size+1+1,2,none⟩ (.slice (some ⟨g,0,none⟩) n cp)) (.agg #[.int .i64 sets,.int .i64 ways,.slice (some ⟨g,0,none⟩) n cp]) X:=by
    rintro _ rfl;rw [hXt];refine ⟨g,cp,by rw [HN.out],?_⟩;simp only;rw [HN.out];exact aD (aR O4.out (gb3 _ (w.heap.size+1+1) _ _ _) (by omega)) (by omega)
   have HFin:Hid _:=fin;clear fin hXt;cases FB
   ·go_wp2_with fail;exact bodyPost_ret (v:=.agg #[.int .i64 sets,.int .i64 ways,.slice (some ⟨g,0,none⟩) n cp]) (by simp [results,Try.results16,go_sem,d0,d1,d2]) rfl ⟨⟨_,rfl,(by first | exact HFin.out _ rfl | exact TlbOwn.drew (HFin.out _ rfl))⟩,(by first | exact aS A4 (by omega) _ _ _ | exact (aS A4 (by omega) _ _ _).drew)⟩
   ·by_cases hpn:pick<0
    ·go_wp2_with fail;exact bodyPost_ret (v:=.agg #[.int .i64 sets,.int .i64 ways,.slice (some ⟨g,0,none⟩) n cp]) (by simp [results,Try.results16,go_sem,d0,d1,d2]) rfl ⟨⟨_,rfl,(by first | exact HFin.out _ rfl | exact TlbOwn.drew (HFin.out _ rfl))⟩,(by first | exact aS A4 (by omega) _ _ _ | exact (aS A4 (by omega) _ _ _).drew)⟩
    ·have hpg:255<pick:=by
      have:=hok;simp at this;omega
     go_wp2_with fail;exact bodyPost_ret (v:=.agg #[.int .i64 sets,.int .i64 ways,.slice (some ⟨g,0,none⟩) n cp]) (by simp [results,Try.results16,go_sem,d0,d1,d2]) rfl ⟨⟨_,rfl,(by first | exact HFin.out _ rfl | exact TlbOwn.drew (HFin.out _ rfl))⟩,(by first | exact aS A4 (by omega) _ _ _ | exact (aS A4 (by omega) _ _ _).drew)⟩
end
section
attribute [local go_sem ↓] Go.wp_at_zero Go.wp_at_succ
theorem fU (w:World) (g i:Nat) (x y z u v t:Value):w.grownBy ((((((w.setCell ⟨g,i,none⟩ x).setCell ⟨g,i+1,none⟩ y).setCell ⟨g,i+2,none⟩ z).setCell ⟨g,i+3,none⟩ u).setCell ⟨g,i+4,none⟩ v).setCell ⟨g,i+5,none⟩ t) (some g):=
 ap (ap (ap (ap (ap (ap (bi w (some g)) _ _) _ _) _ _) _ _) _ _) _ _
theorem ek (b o g n base:Nat) (t:TlbM) (e:EntM) (pick:Int) (w:World) (hn:t.es.length=n) (hn1:n<=1048576) (hs4:t.sets=1∨t.sets=2∨t.sets=4∨t.sets=8) (hw1:1<=t.ways) (hw4:t.ways<=4) (hnw:(n:Int)=t.sets*t.ways) (hbl:b<w.heap.size) (hbg:b≠g)
 (c0:w.cell? ⟨b,o,none⟩=some (.int .i64 t.sets)) (c1:w.cell? ⟨b,o+1,none⟩=some (.int .i64 t.ways)) (c2:w.cell? ⟨b,o+2,none⟩=some (.slice (some ⟨g,0,none⟩) n n)) (ho:w.ownsRow base 123 6 (.slice (some ⟨g,0,none⟩) n n) n (af t.es)) (ht0:0<=e.tag) (ht1:e.tag<=18446744073709551615) (hp0:0<=pick) (hp1:pick<=255):
 Calls Try.prog 75 #[.pointer (some ⟨b,o,none⟩),ax e,.int .i64 pick] w fun x w'=>x=.returned (.tuple #[])∧w'.ownsRow base 123 6 (.slice (some ⟨g,0,none⟩) n n) n (af (t.es.set (aX t e+bK t e pick) e))∧w.grownBy w' (some g):=by
 obtain ⟨sets,ways,es⟩:=t;obtain ⟨vv,lv,tg,asd,gl,pt⟩:=e;simp only at *;have HO:Hid (w.ownsRow base 123 6 (.slice (some ⟨g,0,none⟩) n n) n (af es)):=ho;have HN:Hid (es.length=n):=hn;have hg:=(aw ho).2.2;simp only at hg;clear ho hn;obtain ⟨sx,hsx⟩:∃sx,tg%sets=sx:=⟨_,rfl⟩;have hsb:0<=sx∧sx<sets:=by rw [<-hsx];exact ⟨Int.emod_nonneg _ (by omega),Int.emod_lt_of_pos _ (by omega)⟩
 obtain ⟨f,hf⟩:∃f:Nat,(f:Int)=sx*ways:=⟨(sx*ways).toNat,Int.toNat_of_nonneg (Int.mul_nonneg hsb.1 (by omega))⟩;have hfn:(f:Int)+ways<=n:=by
  rw [hnw,hf];have:(sx+1)*ways<=sets*ways:=Int.mul_le_mul_of_nonneg_right (by omega) (by omega);rw [Int.add_mul,Int.one_mul] at this;exact this
 have HFi:Hid (aX ⟨sets,ways,es⟩ ⟨vv,lv,tg,asd,gl,pt⟩=f):=by
  show _=_;unfold aX;simp only;rw [hsx,<-hf];simp
 have HWm:Hid (sx*ways=(f:Int)):=hf.symm;obtain ⟨P,hP⟩:∃P,bK ⟨sets,ways,es⟩ ⟨vv,lv,tg,asd,gl,pt⟩ pick=P:=⟨_,rfl⟩;have HW:Hid (bK ⟨sets,ways,es⟩ ⟨vv,lv,tg,asd,gl,pt⟩ pick=P):=hP;rw [HFi.out,hP];clear hP hnw;unfold ax;simp only;have n1:=(Below.refl w.heap.size w).alloc (Nat.le_refl _) (Obj.cells #[.int .i64 lv,.int .u64 tg,.int .u64 asd,.bool gl,.bool vv,.int .u64 pt] 123);have H1:Hid ((w.alloc (Obj.cells #[.int .i64 lv,.int .u64 tg,.int .u64 asd,.bool gl,.bool vv,.int .u64 pt] 123)).heap[w.heap.size]?=some (.cells #[.int .i64 lv,.int .u64 tg,.int .u64 asd,.bool gl,.bool vv,.int .u64 pt] 123 (0,0))):=heap_alloc_new w _;have l1:(w.alloc (Obj.cells #[.int .i64 lv,.int .u64 tg,.int .u64 asd,.bool gl,.bool vv,.int .u64 pt] 123)).heap.size=w.heap.size+1:=by simp
 go_enter Try.func75,Try.ntmps75;go_wp2_with fail;generalize w.alloc (Obj.cells #[.int .i64 lv,.int .u64 tg,.int .u64 asd,.bool gl,.bool vv,.int .u64 pt] 123)=v1 at n1 H1 l1 |-;have r0:v1.cell? ⟨b,o,none⟩=some (.int .i64 sets):=Below.cell2 n1 c0 hbl;have r1:v1.cell? ⟨b,o+1,none⟩=some (.int .i64 ways):=Below.cell2 n1 c1 hbl;obtain ⟨⟨x0,x1,x2,x3,x4,x5⟩,_⟩:=aV H1.out;have HSt:Hid (∀q,Calls Try.prog 70 #[.pointer (some ⟨b,o,none⟩),.int .u64 tg] (v1.drewN q) fun e w'=>e=.returned (.int .i64 sx)∧w'=v1.drewN q):=fun q=>by
  have:=cY b o sets tg (v1.drewN q) hs4 r0 ht0 ht1;rw [hsx] at this;exact this
 clear hsx hf;go_cut [6] (fun s6 wx=>s6=.int .i64 f∧∃q,wx=v1.drewN q)
 case first=>
  go_quiet ((go_at_call 70;exact Calls.quiet_of_same (HSt.out _)));go_wp2_with fail;go_meet;exact ⟨by rw [HWm.out];(try (rw [show wrap64 (f:Int)=f from by unfold wrap64;omega])),nq,rfl⟩
 case rest=>
  obtain ⟨rfl,q,rfl⟩:=hcut;have n2:Below w.heap.size w (v1.drewN q):=below_drewN n1 q;have H2:Hid ((v1.drewN q).heap[w.heap.size]?=some (.cells #[.int .i64 lv,.int .u64 tg,.int .u64 asd,.bool gl,.bool vv,.int .u64 pt] 123 (0,0))):=H1;have l2:(v1.drewN q).heap.size=w.heap.size+1:=l1;generalize v1.drewN q=v2 at n2 H2 l2 |-;have O2:Hid (v2.ownsRow base 123 6 (.slice (some ⟨g,0,none⟩) n n) n (af es)):=ah HO.out n2;clear r0 r1 x0 x1 x2 x3 x4 x5 HSt H1 n1 l1 HWm;have r1:v2.cell? ⟨b,o+1,none⟩=some (.int .i64 ways):=Below.cell2 n2 c1 hbl;have r2:v2.cell? ⟨b,o+2,none⟩=some (.slice (some ⟨g,0,none⟩) n n):=Below.cell2 n2 c2 hbl;obtain ⟨⟨x0,x1,x2,x3,x4,x5⟩,_⟩:=aV H2.out;have hll:(af es).length=n*6:=by rw [aN,HN.out]
  have hgw:g≠w.heap.size:=by omega
  have hwg:w.heap.size≠g:=by omega
  go_wp2_with fail
  go_loop [7] (fun i=>∃q:Nat,f<=q∧(q:Int)<=f+ways∧i=.int .i64 q∧Hid (∀q':Nat,f<=q'->q'<q->(es[q']?.getD aC).valid=true)) (fun i=>f+4-(intOf i).toNat)
  case atStart=>exact ⟨f,Nat.le_refl _,by omega,rfl,fun q' h h'=>absurd h' (by omega)⟩
  case round=>
   obtain ⟨q,hq1,hq2,rfl,HQ⟩:=hrel;by_cases hqt:(q:Int)<f+ways
   ·have hqn:q<n:=by omega
    obtain ⟨⟨wv,wl,wt,wa,wg,wp⟩,hx⟩:∃x,es[q]?=some x:=⟨_,List.getElem?_eq_getElem (by rw [HN.out];exact hqn)⟩;have HXq:Hid (es[q]?=some ⟨wv,wl,wt,wa,wg,wp⟩):=hx;have g4:v2.cell? ⟨g,q*6+4,none⟩=some (.bool wv):=bS O2.out HN.out q _ hx 4 _ (by omega) rfl;clear hx;cases wv
    ·have hP:P=q-f:=by
      rw [<-HW.out];unfold bK;simp only;rw [HFi.out,co es f ways.toNat 0 (q-f) (by omega) (fun j hj=>by rw [Nat.zero_add];exact HQ.out (f+j) (by omega) (by omega)) (by rw [Nat.zero_add,show f+(q-f)=q by omega,HXq.out];rfl)];simp
     subst hP;go_wp2_with fail;have q0:=ae O2.out (q*6) _ (List.getElem?_eq_getElem (by omega));have q1:=ae O2.out (q*6+1) _ (List.getElem?_eq_getElem (by omega));have q2:=ae O2.out (q*6+2) _ (List.getElem?_eq_getElem (by omega));have q3:=ae O2.out (q*6+3) _ (List.getElem?_eq_getElem (by omega));have q4z:=ae O2.out (q*6+4) _ (List.getElem?_eq_getElem (by omega));have q5:=ae O2.out (q*6+5) _ (List.getElem?_eq_getElem (by omega));generalize (af es)[q*6]'_=y0 at q0;generalize (af es)[q*6+1]'_=y1 at q1;generalize (af es)[q*6+2]'_=y2 at q2;generalize (af es)[q*6+3]'_=y3 at q3;generalize (af es)[q*6+4]'_=y4 at q4z;generalize (af es)[q*6+5]'_=y5 at q5;have s0:=ag O2.out (q*6);have s1:=ag O2.out (q*6+1);have s2:=ag O2.out (q*6+2);have s3:=ag O2.out (q*6+3);have s4:=ag O2.out (q*6+4);have s5:=ag O2.out (q*6+5);go_still_tail 7,(by kernel_rfl);go_wp2_with fail;refine bodyPost_ret (v:=.tuple #[]) (by simp [results,Try.results75,go_sem]) rfl ⟨rfl,?_,?_⟩
     ·rw [show f+(q-f)=q by omega,be es q _ (by rw [HN.out];exact hqn)];exact bV (ac (ac (ac (ac (ac (ac O2.out _ _) _ _) _ _) _ _) _ _) _ _)
     ·exact bA (et n2) (bA (fU v2 g (q*6) _ _ _ _ _ _) (dk _ _))
    ·go_wp2_with fail
     go_round
     case rel=>exact ⟨q+1,by omega,by omega,by go_num,fun q' h1 h2=>by
      by_cases e:q'=q
      ·subst e;rw [HXq.out];rfl
      ·exact HQ.out q' h1 (by omega)⟩
     case measure=>simp [intOf];omega
   ·have hP:P=(pick%ways).toNat:=by
     rw [<-HW.out];unfold bK;simp only;rw [HFi.out,cq es f ways.toNat 0 (fun j hj=>by rw [Nat.zero_add];exact HQ.out (f+j) (by omega) (by omega))];rfl
    have hpm:0<=pick%ways∧pick%ways<ways:=⟨Int.emod_nonneg _ (by omega),Int.emod_lt_of_pos _ (by omega)⟩;obtain ⟨r,hr⟩:∃r:Nat,(r:Int)=pick%ways:=⟨(pick%ways).toNat,Int.toNat_of_nonneg hpm.1⟩;have hPr:P=r:=by rw [hP,<-hr];simp
    subst hPr;clear hP hpm;have hrm:pick%ways=(P:Int):=hr.symm;have hrb:(f:Int)+P<n:=by
     have:pick%ways<ways:=Int.emod_lt_of_pos _ (by omega);omega
    have hw0:¬(ways=0):=by omega
    have htm:pick.tmod ways=(P:Int):=by rw [Int.tmod_eq_emod_of_nonneg hp0];exact hr.symm
    clear hr hrm;obtain ⟨d,hd⟩:∃d:Nat,f+P=d:=⟨_,rfl⟩;have hdn:d<n:=by omega
    have HD:Hid (f+P=d):=hd;have hfp:(f:Int)+(P:Int)=(d:Int):=by omega
    clear hd;have hwd:IntKind.i64.wrap (d:Int)=(d:Int):=(IntKind.wrap_i64 _).trans (by omega);go_wp2_with fail;have q0:=ae O2.out (d*6) _ (List.getElem?_eq_getElem (by omega));have q1:=ae O2.out (d*6+1) _ (List.getElem?_eq_getElem (by omega));have q2:=ae O2.out (d*6+2) _ (List.getElem?_eq_getElem (by omega));have q3:=ae O2.out (d*6+3) _ (List.getElem?_eq_getElem (by omega));have q4:=ae O2.out (d*6+4) _ (List.getElem?_eq_getElem (by omega));have q5:=ae O2.out (d*6+5) _ (List.getElem?_eq_getElem (by omega));generalize (af es)[d*6]'_=y0 at q0;generalize (af es)[d*6+1]'_=y1 at q1;generalize (af es)[d*6+2]'_=y2 at q2;generalize (af es)[d*6+3]'_=y3 at q3;generalize (af es)[d*6+4]'_=y4 at q4;generalize (af es)[d*6+5]'_=y5 at q5;have s0:=ag O2.out (d*6);have s1:=ag O2.out (d*6+1);have s2:=ag O2.out (d*6+2);have s3:=ag O2.out (d*6+3);have s4:=ag O2.out (d*6+4);have s5:=ag O2.out (d*6+5);go_still_tail 14,(by kernel_rfl);go_wp2_with fail;go_end0;refine ⟨rfl,?_,?_⟩
    ·rw [HD.out,be es d _ (by rw [HN.out];exact hdn)];exact bV (ac (ac (ac (ac (ac (ac O2.out _ _) _ _) _ _) _ _) _ _) _ _)
    ·exact bA (et n2) (bA (fU v2 g (d*6) _ _ _ _ _ _) (dk _ _))
end
def eX (base:Nat) (w:World) (e:Ending) (t:TlbM):Prop:=∃x,e=.returned (.tuple #[x,.bool true])∧TlbOwn base w x t
theorem dh (v:Value) (t:TlbM) (x:EntM) (pick:Int) (w:World) (h:TlbAt w v t) (hx:aO x) (hp0:0<=pick) (hp1:pick<=255):
 Calls Try.prog 42 #[v,bQ x,.int .i64 pick] w fun e w'=>cond (an t false && ak x false) (eX w.heap.size w' e ⟨t.sets,t.ways,t.es.set (aX t x+bK t x pick) x⟩) (e=.returned (.tuple #[.agg #[.int .i64 0,.int .i64 0,.slice none 0 0],.bool false]))∧Below w.heap.size w w':=by
 have HK:Hid (bZ t):=TlbAt.ok h;have HT:Hid (TlbAt w v t):=h;obtain ⟨a,cap,rfl,_⟩:=h;obtain ⟨vv,lv,tg,asd,gl,pt⟩:=x;unfold bQ;simp only;obtain ⟨sets,ways,es⟩:=t;simp only at *;obtain ⟨n,hn⟩:∃n,es.length=n:=⟨_,rfl⟩;have HN:Hid (es.length=n):=hn;rw [hn] at HT |-;have n1:=(((Below.refl w.heap.size w).alloc (Nat.le_refl _) (Obj.cells #[.int .i64 sets,.int .i64 ways,.slice a n cap] 29)).alloc (by simp) (Obj.cells #[.bool vv,.int .i64 lv,.int .u64 tg,.int .u64 asd,.bool gl,.int .u64 pt] 42)).alloc (by simp;omega) (Obj.cells #[.int .i64 0,.int .i64 0,.slice none 0 0] 29);have HT1:Hid (TlbAt (((w.alloc (Obj.cells #[.int .i64 sets,.int .i64 ways,.slice a n cap] 29)).alloc (Obj.cells #[.bool vv,.int .i64 lv,.int .u64 tg,.int .u64 asd,.bool gl,.int .u64 pt] 42)).alloc (Obj.cells #[.int .i64 0,.int .i64 0,.slice none 0 0] 29)) (.agg #[.int .i64 sets,.int .i64 ways,.slice a n cap]) ⟨sets,ways,es⟩):=HT.out.keep n1;have H2:Hid ((((w.alloc (Obj.cells #[.int .i64 sets,.int .i64 ways,.slice a n cap] 29)).alloc (Obj.cells #[.bool vv,.int .i64 lv,.int .u64 tg,.int .u64 asd,.bool gl,.int .u64 pt] 42)).alloc (Obj.cells #[.int .i64 0,.int .i64 0,.slice none 0 0] 29)).heap[w.heap.size+1]?=some (.cells #[.bool vv,.int .i64 lv,.int .u64 tg,.int .u64 asd,.bool gl,.int .u64 pt] 42 (0,0))):=by
  show _=_;rw [heap_alloc_old _ _ (by simp)];have:=heap_alloc_new (w.alloc (Obj.cells #[.int .i64 sets,.int .i64 ways,.slice a n cap] 29)) (Obj.cells #[.bool vv,.int .i64 lv,.int .u64 tg,.int .u64 asd,.bool gl,.int .u64 pt] 42);simp only [World.size_alloc] at this;exact this
 have H3:Hid ((((w.alloc (Obj.cells #[.int .i64 sets,.int .i64 ways,.slice a n cap] 29)).alloc (Obj.cells #[.bool vv,.int .i64 lv,.int .u64 tg,.int .u64 asd,.bool gl,.int .u64 pt] 42)).alloc (Obj.cells #[.int .i64 0,.int .i64 0,.slice none 0 0] 29)).heap[w.heap.size+1+1]?=some (.cells #[.int .i64 0,.int .i64 0,.slice none 0 0] 29 (0,0))):=by
  have:=heap_alloc_new ((w.alloc (Obj.cells #[.int .i64 sets,.int .i64 ways,.slice a n cap] 29)).alloc (Obj.cells #[.bool vv,.int .i64 lv,.int .u64 tg,.int .u64 asd,.bool gl,.int .u64 pt] 42)) (Obj.cells #[.int .i64 0,.int .i64 0,.slice none 0 0] 29);simp only [World.size_alloc] at this;exact this
 have l1:w.heap.size+1+1<(((w.alloc (Obj.cells #[.int .i64 sets,.int .i64 ways,.slice a n cap] 29)).alloc (Obj.cells #[.bool vv,.int .i64 lv,.int .u64 tg,.int .u64 asd,.bool gl,.int .u64 pt] 42)).alloc (Obj.cells #[.int .i64 0,.int .i64 0,.slice none 0 0] 29)).heap.size:=by simp
 clear HT hn;obtain ⟨qv,hqv⟩:∃q,an ⟨sets,ways,es⟩ false=q:=⟨_,rfl⟩;obtain ⟨qg,hqg⟩:∃q,ak ⟨vv,lv,tg,asd,gl,pt⟩ false=q:=⟨_,rfl⟩;have HQ:Hid (an ⟨sets,ways,es⟩ false=qv):=hqv;have HG:Hid (ak ⟨vv,lv,tg,asd,gl,pt⟩ false=qg):=hqg;have HSl:Hid (∀u,Calls Try.prog 69 #[.agg #[.bool vv,.int .i64 lv,.int .u64 tg,.int .u64 asd,.bool gl,.int .u64 pt]] u fun e w'=>e=.returned (.tuple #[ax (if qg=true then ⟨vv,lv,tg,asd,gl,pt⟩ else aC),.bool qg])∧Below u.heap.size u w'):=fun u=>by
  have:=de ⟨vv,lv,tg,asd,gl,pt⟩ u hx;rw [hqg] at this;exact this
 obtain ⟨Y,hY⟩:∃Y,es.set (aX ⟨sets,ways,es⟩ ⟨vv,lv,tg,asd,gl,pt⟩+bK ⟨sets,ways,es⟩ ⟨vv,lv,tg,asd,gl,pt⟩ pick) ⟨vv,lv,tg,asd,gl,pt⟩=Y:=⟨_,rfl⟩;have HY:Hid (es.set (aX ⟨sets,ways,es⟩ ⟨vv,lv,tg,asd,gl,pt⟩+bK ⟨sets,ways,es⟩ ⟨vv,lv,tg,asd,gl,pt⟩ pick) ⟨vv,lv,tg,asd,gl,pt⟩=Y):=hY;have HYl:Hid (Y.length=n):=by show _=_;rw [<-hY,List.length_set];exact HN.out
 rw [hqv,hqg,hY];clear hqv hqg hY;go_enter Try.func42,Try.ntmps42;go_wp2_with fail;generalize (((w.alloc (Obj.cells #[.int .i64 sets,.int .i64 ways,.slice a n cap] 29)).alloc (Obj.cells #[.bool vv,.int .i64 lv,.int .u64 tg,.int .u64 asd,.bool gl,.int .u64 pt] 42)).alloc (Obj.cells #[.int .i64 0,.int .i64 0,.slice none 0 0] 29))=v1 at n1 HT1 H2 H3 l1 |-;refine (bP _ ⟨sets,ways,es⟩ v1 HT1.out).mono ?_;rw [HQ.out];rintro e v2 ⟨hc,n2⟩;have A2:=Below.step n1 n2 (Nat.le_refl _);have K2:=ab H2 n2;have K3:=ab H3 n2;have l2:w.heap.size+1+1<v2.heap.size:=Nat.lt_of_lt_of_le l1 n2.size;clear n1 HT1 H2 H3;obtain ⟨⟨c0,c1,c2,c3,c4,c5⟩,_⟩:=aV K2.out;have l0:w.heap.size+1<v2.heap.size:=by omega
 cases qv
 ·dsimp only [cond] at hc;subst hc;have n3:=(Below.refl v2.heap.size v2).alloc (Nat.le_refl _) (Obj.cells #[.int .i64 0,.int .i64 0,.slice none 0 0] 78);have A3:=Below.step A2 n3 (Nat.le_refl _);have J3:=ab K3 n3;have l3:w.heap.size+1+1<(v2.alloc (Obj.cells #[.int .i64 0,.int .i64 0,.slice none 0 0] 78)).heap.size:=by simp;omega
  go_wp2_with fail;generalize v2.alloc (Obj.cells #[.int .i64 0,.int .i64 0,.slice none 0 0] 78)=v3 at n3 A3 J3 l3 |-;refine (HSl.out v3).mono ?_;rintro e v4 ⟨rfl,n4⟩;have A4:=Below.step A3 n4 (Nat.le_refl _);have J4:=ab J3 n4;have l4:w.heap.size+1+1<v4.heap.size:=Nat.lt_of_lt_of_le l3 n4.size;clear n3 n4 A3 J3 c0 c1 c2 c3 c4 c5;obtain ⟨⟨d0,d1,d2⟩,e0,e1,e2⟩:=aa J4.out;cases qg;all_goals
   simp only [ax,aC,Bool.false_eq_true,if_false,if_true];go_wp2_with fail;exact bodyPost_ret (v:=.tuple #[.agg #[.int .i64 0,.int .i64 0,.slice none 0 0],.bool false]) (by simp [results,Try.results42,go_sem,d0,d1,d2,l4]) rfl ⟨rfl,by first | exact (aS A4 (by omega) _ _ _).alloc (by simp;omega) _ | exact aS (A4.alloc A4.size _) (by omega) _ _ _⟩
 ·dsimp only [cond] at hc;obtain ⟨g,rfl,ho⟩:=hc;have hg:=aw ho;obtain ⟨_,hg1,hg2⟩:=hg;simp only at hg1 hg2 ho |-;rw [HN.out] at ho |-;have n3:=(Below.refl v2.heap.size v2).alloc (Nat.le_refl _) (Obj.cells #[.int .i64 sets,.int .i64 ways,.slice (some ⟨g,0,none⟩) n n] 78);have H3:Hid ((v2.alloc (Obj.cells #[.int .i64 sets,.int .i64 ways,.slice (some ⟨g,0,none⟩) n n] 78)).heap[v2.heap.size]?=some (.cells #[.int .i64 sets,.int .i64 ways,.slice (some ⟨g,0,none⟩) n n] 78 (0,0))):=heap_alloc_new v2 _;have O3:Hid ((v2.alloc (Obj.cells #[.int .i64 sets,.int .i64 ways,.slice (some ⟨g,0,none⟩) n n] 78)).ownsRow v1.heap.size 123 6 (.slice (some ⟨g,0,none⟩) n n) n (af es)):=ah ho n3;have A3:=Below.step A2 n3 (Nat.le_refl _);have J3:=ab K3 n3;have l3:v2.heap.size<(v2.alloc (Obj.cells #[.int .i64 sets,.int .i64 ways,.slice (some ⟨g,0,none⟩) n n] 78)).heap.size:=by simp
  clear ho;go_wp2_with fail;generalize v2.alloc (Obj.cells #[.int .i64 sets,.int .i64 ways,.slice (some ⟨g,0,none⟩) n n] 78)=v3 at n3 H3 O3 A3 J3 l3 |-;refine (HSl.out v3).mono ?_;rintro e v4 ⟨rfl,n4⟩;have A4:=Below.step A3 n4 (Nat.le_refl _);have J4:=ab J3 n4;have H4:=ab H3 n4;have O4:Hid (v4.ownsRow v1.heap.size 123 6 (.slice (some ⟨g,0,none⟩) n n) n (af es)):=ah O3.out n4;have l4:v2.heap.size<v4.heap.size:=Nat.lt_of_lt_of_le l3 n4.size;have l4':w.heap.size+1+1<v4.heap.size:=by omega
  clear n3 n4 A3 J3 H3 O3 c0 c1 c2 c3 c4 c5;cases qg
  ·obtain ⟨⟨d0,d1,d2⟩,e0,e1,e2⟩:=aa J4.out;simp only [ax,aC,Bool.false_eq_true,if_false];go_wp2_with fail;exact bodyPost_ret (v:=.tuple #[.agg #[.int .i64 0,.int .i64 0,.slice none 0 0],.bool false]) (by simp [results,Try.results42,go_sem,d0,d1,d2,l4']) rfl ⟨rfl,by first | exact (aS A4 (by omega) _ _ _).alloc (by simp;omega) _ | exact aS (A4.alloc A4.size _) (by omega) _ _ _⟩
  ·simp only [ax,if_true];have n5:=(Below.refl v4.heap.size v4).alloc (Nat.le_refl _) (Obj.cells #[.int .i64 lv,.int .u64 tg,.int .u64 asd,.bool gl,.bool vv,.int .u64 pt] 123);have A5:=Below.step A4 n5 (Nat.le_refl _);have J5:=ab J4 n5;have H5:=ab H4 n5;have O5:Hid ((v4.alloc (Obj.cells #[.int .i64 lv,.int .u64 tg,.int .u64 asd,.bool gl,.bool vv,.int .u64 pt] 123)).ownsRow v1.heap.size 123 6 (.slice (some ⟨g,0,none⟩) n n) n (af es)):=ah O4.out n5;have l5:v4.heap.size<(v4.alloc (Obj.cells #[.int .i64 lv,.int .u64 tg,.int .u64 asd,.bool gl,.bool vv,.int .u64 pt] 123)).heap.size:=by simp
   clear n5;go_wp2_with fail;generalize v4.alloc (Obj.cells #[.int .i64 lv,.int .u64 tg,.int .u64 asd,.bool gl,.bool vv,.int .u64 pt] 123)=v5 at A5 J5 H5 O5 l5 |-;obtain ⟨⟨p0,p1,p2⟩,_,_,_⟩:=aa H5.out;have hsh:=cC HQ.out;simp only at hsh;rw [HN.out] at hsh;refine (ek v2.heap.size 0 g n v1.heap.size ⟨sets,ways,es⟩ ⟨vv,lv,tg,asd,gl,pt⟩ pick v5 HN.out (by rw [<-HN.out];exact HK.out.2.2.2) hsh.1 hsh.2.1 hsh.2.2.1 hsh.2.2.2 (by omega) (by omega) p0 p1 p2 O5.out hx.2.1.1 hx.2.1.2 hp0 hp1).mono ?_;rintro e v6 ⟨rfl,o6,m6⟩;simp only at o6;rw [HY.out] at o6;have O6:Hid (v6.ownsRow v1.heap.size 123 6 (.slice (some ⟨g,0,none⟩) n n) n (af Y)):=o6;have H6:Hid (v6.heap[v2.heap.size]?=some (.cells #[.int .i64 sets,.int .i64 ways,.slice (some ⟨g,0,none⟩) n n] 78 (0,0))):=aH H5.out m6 (by omega);have J6:Hid (v6.heap[w.heap.size+1+1]?=some (.cells #[.int .i64 0,.int .i64 0,.slice none 0 0] 29 (0,0))):=aH J5.out m6 (by omega);have l6:v5.heap.size<=v6.heap.size:=m6.size;have A6:Below w.heap.size w v6:=A5.grown m6 A5.size (fun k hk=>by cases hk;omega);clear o6 m6 p0 p1 p2 H5 J5 O5 A5;obtain ⟨⟨p0,p1,p2⟩,_,_,_⟩:=aa H6.out;go_wp2_with fail;refine (eE v2.heap.size 0 g n ⟨sets,ways,Y⟩ v6 HYl.out (by rw [<-HN.out];exact HK.out.2.2.2) (by omega) (by omega) p0 p1 p2 (aU O6.out)).mono ?_;rintro e v7 ⟨⟨y,rfl,gy,cy,rfl,oy⟩,n7⟩;simp only at oy |-;have J7:=ab J6 n7;have A7:=Below.step A6 n7 (Nat.le_refl _);have gy1:=(aw oy).2.1;simp only at gy1;obtain ⟨⟨d0,d1,d2⟩,e0,e1,e2⟩:=aa J7.out;go_wp2_with fail;exact bodyPost_ret (v:=.tuple #[.agg #[.int .i64 sets,.int .i64 ways,.slice (some ⟨gy,0,none⟩) Y.length cy],.bool true]) (by simp [results,Try.results42,go_sem,d0,d1,d2]) rfl ⟨⟨_,rfl,gy,cy,rfl,aD (aR oy (gb3 v7 (w.heap.size+1+1) _ _ _) (by omega)) (by omega)⟩,aS A7 (by omega) _ _ _⟩
end Go.Proofs.Ytfgogedgolgnaaa
