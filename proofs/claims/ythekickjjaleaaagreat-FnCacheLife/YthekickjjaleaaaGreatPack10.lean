import Derived.Deep.DeepCutAuto
import Derived.StillTailTactics
import Derived.Test.YthekickjjaleaaaGreatPack09
import Derived.Test.YthekickjjaleaaaGreatPack05
namespace Go.Proofs.YthekickjjaleaaaGreat
open Go.RowKit
set_option linter.unusedVariables false
attribute [local go_sem ↓] Go.wp_at_zero Go.wp_at_succ
theorem mj {v:World} {p:Nat} {T:TypeId} {a b c d e f:Value} (h:v.heap[p]?=some (.cells #[a,b,c,d,e,f] T (0,0))):
 v.cell? ⟨p,0,none⟩=some a∧v.cell? ⟨p,1,none⟩=some b∧v.cell? ⟨p,2,none⟩=some c∧v.cell? ⟨p,3,none⟩=some d∧v.cell? ⟨p,4,none⟩=some e∧v.cell? ⟨p,5,none⟩=some f:=by
 simp [World.cell?,h]
theorem TlbOwn.drew {base:Nat} {w:World} {v:Value} {t:TlbM} (h:TlbOwn base w v t):TlbOwn base w.drew v t:=h
theorem kj (es:List EntM) (first:Nat):∀(left w k:Nat),k<left→(∀j,j<k→(es[first+(w+j)]?.getD bQ).valid=true)→(es[first+(w+k)]?.getD bQ).valid=false→jz es first w left=some (w+k)
 | 0,w,k,h,_,_=>by omega
 | left+1,w,0,h,h1,h2=>by
  rw [jz,if_pos (by simpa using h2)];rfl
 | left+1,w,k+1,h,h1,h2=>by
  rw [jz,if_neg (by have:=h1 0 (by omega);simp at this;rw [this];simp)];rw [kj es first left (w+1) k (by omega) (fun j hj=>by rw [show w+1+j=w+(j+1) by omega];exact h1 (j+1) (by omega)) (by rw [show w+1+k=w+(k+1) by omega];exact h2)];congr 1;omega
theorem kl (es:List EntM) (first:Nat):∀(left w:Nat),(∀j,j<left→(es[first+(w+j)]?.getD bQ).valid=true)→jz es first w left=none
 | 0,w,h=>rfl
 | left+1,w,h=>by
  rw [jz,if_neg (by have:=h 0 (by omega);simp at this;rw [this];simp)];exact kl es first left (w+1) (fun j hj=>by rw [show w+1+j=w+(j+1) by omega];exact h (j+1) (by omega))
set_option maxRecDepth 20000 in
set_option maxHeartbeats 3200000 in
theorem gu (v:Value) (t:TlbM) (x:EntM) (pick:Int) (w:World) (h:TlbAt w v t) (hx:da x):
 Calls Tryz.prog 46 #[v,gx x,.int .i64 pick] w fun e w'=>(∃y,e=.returned y∧TlbOwn w.heap.size w' y (cE t x pick))∧Below w.heap.size w w':=by
 have HT:Hid (TlbAt w v t):=h;have HOK:Hid (dA t):=TlbAt.ok h;obtain ⟨a,cap,rfl,hr,_,_,_,hl,hlc,hcm,hnil,hsp⟩:=h;obtain ⟨sets,ways,es⟩:=t;obtain ⟨vv,lv,tg,asd,gl,pt⟩:=x;obtain ⟨n,hn⟩:∃n,es.length=n:=⟨_,rfl⟩;simp only at hr hl hlc hnil HT ⊢;have HN:Hid (es.length=n):=hn;rw [hn] at hr hl hlc hnil HT ⊢;obtain ⟨X,hX⟩:∃X,cE ⟨sets,ways,es⟩ ⟨vv,lv,tg,asd,gl,pt⟩ pick=X:=⟨_,rfl⟩;have HX:Hid (cE ⟨sets,ways,es⟩ ⟨vv,lv,tg,asd,gl,pt⟩ pick=X):=hX;rw [hX];have HR0:Hid (RowC w a n 6 (aG es)):=hr;obtain ⟨q1,hq1⟩:∃q,aI ⟨sets,ways,es⟩ true=q:=⟨_,rfl⟩;obtain ⟨q2,hq2⟩:∃q,aI ⟨sets,ways,es⟩ false=q:=⟨_,rfl⟩;obtain ⟨q3,hq3⟩:∃q,aO ⟨vv,lv,tg,asd,gl,pt⟩ true=q:=⟨_,rfl⟩;obtain ⟨q4,hq4⟩:∃q,aO ⟨vv,lv,tg,asd,gl,pt⟩ false=q:=⟨_,rfl⟩;have HFi:Hid (iT ⟨sets,ways,es⟩ ⟨vv,lv,tg,asd,gl,pt⟩=((q1 && q3) || (q2 && q4))):=by show _=_;rw [iT,hq1,hq2,hq3,hq4]
 have HQ:Hid (aI ⟨sets,ways,es⟩ true=q1∧aI ⟨sets,ways,es⟩ false=q2):=⟨hq1,hq2⟩;have HG:Hid (∀p w,Calls Tryz.prog 101 #[.agg #[.bool vv,.int .i64 lv,.int .u64 tg,.int .u64 asd,.bool gl,.int .u64 pt],.bool p] w fun e w'=>e=.returned (.bool (cond p q3 q4))∧Below w.heap.size w w'):=fun p w=>by
  have:=i7 ⟨vv,lv,tg,asd,gl,pt⟩ p w hx;cases p
  ·rw [hq4] at this;exact this
  ·rw [hq3] at this;exact this
 have HV:Hid (∀p w,TlbAt w (.agg #[.int .i64 sets,.int .i64 ways,.slice a n cap]) ⟨sets,ways,es⟩→Calls Tryz.prog 31 #[.agg #[.int .i64 sets,.int .i64 ways,.slice a n cap],.bool p] w fun e w'=>e=.returned (.bool (cond p q1 q2))∧Below w.heap.size w w'):=fun p w h=>by
  have:=er _ _ p w h;cases p
  ·rw [hq2] at this;exact this
  ·rw [hq1] at this;exact this
 unfold gx;simp only;have n1:=(((Below.refl w.heap.size w).alloc (Nat.le_refl _) (Obj.cells #[.int .i64 sets,.int .i64 ways,.slice a n cap] 41)).alloc (by simp) (Obj.cells #[.bool vv,.int .i64 lv,.int .u64 tg,.int .u64 asd,.bool gl,.int .u64 pt] 83)).alloc (by simp;omega) (Obj.cells #[.int .i64 0,.int .i64 0,.slice none 0 0] 41);have HT1:Hid (TlbAt (((w.alloc (Obj.cells #[.int .i64 sets,.int .i64 ways,.slice a n cap] 41)).alloc (Obj.cells #[.bool vv,.int .i64 lv,.int .u64 tg,.int .u64 asd,.bool gl,.int .u64 pt] 83)).alloc (Obj.cells #[.int .i64 0,.int .i64 0,.slice none 0 0] 41)) (.agg #[.int .i64 sets,.int .i64 ways,.slice a n cap]) ⟨sets,ways,es⟩):=HT.out.keep n1;have H1:Hid ((((w.alloc (Obj.cells #[.int .i64 sets,.int .i64 ways,.slice a n cap] 41)).alloc (Obj.cells #[.bool vv,.int .i64 lv,.int .u64 tg,.int .u64 asd,.bool gl,.int .u64 pt] 83)).alloc (Obj.cells #[.int .i64 0,.int .i64 0,.slice none 0 0] 41)).heap[w.heap.size]?=some (.cells #[.int .i64 sets,.int .i64 ways,.slice a n cap] 41 (0,0))):=by
  show _=_;rw [heap_alloc_old _ _ (by simp;omega),heap_alloc_old _ _ (by simp)];exact heap_alloc_new w _
 have H2:Hid ((((w.alloc (Obj.cells #[.int .i64 sets,.int .i64 ways,.slice a n cap] 41)).alloc (Obj.cells #[.bool vv,.int .i64 lv,.int .u64 tg,.int .u64 asd,.bool gl,.int .u64 pt] 83)).alloc (Obj.cells #[.int .i64 0,.int .i64 0,.slice none 0 0] 41)).heap[w.heap.size+1]?=some (.cells #[.bool vv,.int .i64 lv,.int .u64 tg,.int .u64 asd,.bool gl,.int .u64 pt] 83 (0,0))):=by
  show _=_;rw [heap_alloc_old _ _ (by simp)];have:=heap_alloc_new (w.alloc (Obj.cells #[.int .i64 sets,.int .i64 ways,.slice a n cap] 41)) (Obj.cells #[.bool vv,.int .i64 lv,.int .u64 tg,.int .u64 asd,.bool gl,.int .u64 pt] 83);simp only [World.size_alloc] at this;exact this
 have H3:Hid ((((w.alloc (Obj.cells #[.int .i64 sets,.int .i64 ways,.slice a n cap] 41)).alloc (Obj.cells #[.bool vv,.int .i64 lv,.int .u64 tg,.int .u64 asd,.bool gl,.int .u64 pt] 83)).alloc (Obj.cells #[.int .i64 0,.int .i64 0,.slice none 0 0] 41)).heap[w.heap.size+1+1]?=some (.cells #[.int .i64 0,.int .i64 0,.slice none 0 0] 41 (0,0))):=by
  have:=heap_alloc_new ((w.alloc (Obj.cells #[.int .i64 sets,.int .i64 ways,.slice a n cap] 41)).alloc (Obj.cells #[.bool vv,.int .i64 lv,.int .u64 tg,.int .u64 asd,.bool gl,.int .u64 pt] 83)) (Obj.cells #[.int .i64 0,.int .i64 0,.slice none 0 0] 41);simp only [World.size_alloc] at this;exact this
 have l1:w.heap.size+1+1<(((w.alloc (Obj.cells #[.int .i64 sets,.int .i64 ways,.slice a n cap] 41)).alloc (Obj.cells #[.bool vv,.int .i64 lv,.int .u64 tg,.int .u64 asd,.bool gl,.int .u64 pt] 83)).alloc (Obj.cells #[.int .i64 0,.int .i64 0,.slice none 0 0] 41)).heap.size:=by simp
 clear hr hnil hsp HT hn hX hq1 hq2 hq3 hq4;go_enter Tryz.func46,Tryz.ntmps46;go_wp2_with fail;generalize (((w.alloc (Obj.cells #[.int .i64 sets,.int .i64 ways,.slice a n cap] 41)).alloc (Obj.cells #[.bool vv,.int .i64 lv,.int .u64 tg,.int .u64 asd,.bool gl,.int .u64 pt] 83)).alloc (Obj.cells #[.int .i64 0,.int .i64 0,.slice none 0 0] 41))=v1 at n1 HT1 H1 H2 H3 l1 ⊢;refine (fe _ ⟨sets,ways,es⟩ v1 HT1.out).mono ?_;rintro e v2 ⟨⟨x,rfl,g,cp,rfl,o2⟩,n2⟩;simp only at o2 ⊢;rw [HN.out] at o2 ⊢;have O2:Hid (v2.ownsRow v1.heap.size 83 6 (.slice (some ⟨g,0,none⟩) n cp) n (aG es)):=o2;have hg:=bV o2;have A2:=Below.step n1 n2 (Nat.le_refl _);have HT2:Hid (TlbAt v2 (.agg #[.int .i64 sets,.int .i64 ways,.slice a n cap]) ⟨sets,ways,es⟩):=HT1.out.keep n2;have K1:=ae H1 n2;have K2:=ae H2 n2;have K3:=ae H3 n2;have l2:v1.heap.size≤v2.heap.size:=n2.size;obtain ⟨_,hg1,hg2⟩:=hg;simp only at hg1 hg2;clear o2 n1 n2 HT1 H1 H2 H3;go_upto_region 2 with fail;have n3:=(Below.refl v2.heap.size v2).alloc (Nat.le_refl _) (Obj.cells #[.int .i64 sets,.int .i64 ways,.slice (some ⟨g,0,none⟩) n cp] 41);have H4:Hid ((v2.alloc (Obj.cells #[.int .i64 sets,.int .i64 ways,.slice (some ⟨g,0,none⟩) n cp] 41)).heap[v2.heap.size]?=some (.cells #[.int .i64 sets,.int .i64 ways,.slice (some ⟨g,0,none⟩) n cp] 41 (0,0))):=heap_alloc_new v2 _;have l3:v2.heap.size<(v2.alloc (Obj.cells #[.int .i64 sets,.int .i64 ways,.slice (some ⟨g,0,none⟩) n cp] 41)).heap.size:=by simp
 generalize v2.alloc (Obj.cells #[.int .i64 sets,.int .i64 ways,.slice (some ⟨g,0,none⟩) n cp] 41)=v3 at n3 H4 l3 ⊢;have A3:=Below.step A2 n3 (Nat.le_refl _);have HT3:Hid (∀v,Below v3.heap.size v3 v→TlbAt v (.agg #[.int .i64 sets,.int .i64 ways,.slice a n cap]) ⟨sets,ways,es⟩):=fun v hv=>(HT2.out.keep n3).keep hv;have O3:Hid (v3.ownsRow v1.heap.size 83 6 (.slice (some ⟨g,0,none⟩) n cp) n (aG es)):=ak O2.out n3;have P1:=ae K1 n3;have P2:=ae K2 n3;have P3:=ae K3 n3;clear n3 HT2 O2 K1 K2 K3 A2;have HC:Hid (∀v,Below v3.heap.size v3 v→(v.cell? ⟨w.heap.size,0,none⟩=some (.int .i64 sets)∧v.cell? ⟨w.heap.size,1,none⟩=some (.int .i64 ways)∧v.cell? ⟨w.heap.size,2,none⟩=some (.slice a n cap))∧
  v.cell? ⟨w.heap.size+1,0,none⟩=some (.bool vv)∧v.cell? ⟨w.heap.size+1,1,none⟩=some (.int .i64 lv)∧v.cell? ⟨w.heap.size+1,2,none⟩=some (.int .u64 tg)∧v.cell? ⟨w.heap.size+1,3,none⟩=some (.int .u64 asd)∧v.cell? ⟨w.heap.size+1,4,none⟩=some (.bool gl)∧v.cell? ⟨w.heap.size+1,5,none⟩=some (.int .u64 pt)):=
  fun v hv=>⟨(ao (ab P1.out hv (by omega))).1,mj (ab P2.out hv (by omega))⟩
 have bl:Below v3.heap.size v3 v3:=Below.refl _ _;obtain ⟨FB,hFB⟩:∃FB,((q1 && q3) || (q2 && q4))=FB:=⟨_,rfl⟩;go_cut [8] (fun s8 wx=>s8=.bool FB∧Below v3.heap.size v3 wx)
 case first=>
  obtain ⟨⟨c0,c1,c2⟩,f0,f1,f2,f3,f4,f5⟩:=HC.out v3 bl;cases q1
  ·cases q2 <;> cases q4;all_goals
    go_wp2_with (first
    | (go_at_call 31;refine (HV.out _ _ (HT3.out _ bl)).mono ?_;rintro e vz ⟨rfl,nz⟩;dsimp only [cond];replace bl:=Below.step bl nz (Nat.le_refl _);clear c0 c1 c2 f0 f1 f2 f3 f4 f5;have cc:=HC.out _ bl;obtain ⟨⟨c0,c1,c2⟩,f0,f1,f2,f3,f4,f5⟩:=cc)
    | (go_at_call 101;refine (HG.out _ _).mono ?_;rintro e vz ⟨rfl,nz⟩;dsimp only [cond];replace bl:=Below.step bl nz (Nat.le_refl _);clear c0 c1 c2 f0 f1 f2 f3 f4 f5;have cc:=HC.out _ bl;obtain ⟨⟨c0,c1,c2⟩,f0,f1,f2,f3,f4,f5⟩:=cc))
    go_meet;exact ⟨by rw [←hFB];rfl,bl⟩
  ·cases q3
   ·cases q2 <;> cases q4;all_goals
     go_wp2_with (first
     | (go_at_call 31;refine (HV.out _ _ (HT3.out _ bl)).mono ?_;rintro e vz ⟨rfl,nz⟩;dsimp only [cond];replace bl:=Below.step bl nz (Nat.le_refl _);clear c0 c1 c2 f0 f1 f2 f3 f4 f5;have cc:=HC.out _ bl;obtain ⟨⟨c0,c1,c2⟩,f0,f1,f2,f3,f4,f5⟩:=cc)
     | (go_at_call 101;refine (HG.out _ _).mono ?_;rintro e vz ⟨rfl,nz⟩;dsimp only [cond];replace bl:=Below.step bl nz (Nat.le_refl _);clear c0 c1 c2 f0 f1 f2 f3 f4 f5;have cc:=HC.out _ bl;obtain ⟨⟨c0,c1,c2⟩,f0,f1,f2,f3,f4,f5⟩:=cc))
     go_meet;exact ⟨by rw [←hFB];rfl,bl⟩
   ·go_wp2_with (first
    | (go_at_call 31;refine (HV.out _ _ (HT3.out _ bl)).mono ?_;rintro e vz ⟨rfl,nz⟩;dsimp only [cond];replace bl:=Below.step bl nz (Nat.le_refl _);clear c0 c1 c2 f0 f1 f2 f3 f4 f5;have cc:=HC.out _ bl;obtain ⟨⟨c0,c1,c2⟩,f0,f1,f2,f3,f4,f5⟩:=cc)
    | (go_at_call 101;refine (HG.out _ _).mono ?_;rintro e vz ⟨rfl,nz⟩;dsimp only [cond];replace bl:=Below.step bl nz (Nat.le_refl _);clear c0 c1 c2 f0 f1 f2 f3 f4 f5;have cc:=HC.out _ bl;obtain ⟨⟨c0,c1,c2⟩,f0,f1,f2,f3,f4,f5⟩:=cc))
    go_meet;exact ⟨by rw [←hFB];rfl,bl⟩
 case rest=>
  obtain ⟨rfl,m⟩:=hcut;generalize wc=v4 at m ⊢;have A4:=Below.step A3 m (Nat.le_refl _);have O4:Hid (v4.ownsRow v1.heap.size 83 6 (.slice (some ⟨g,0,none⟩) n cp) n (aG es)):=ak O3.out m;have R1:=ae P1 m;have R2:=ae P2 m;have R3:=ae P3 m;have R4:=ae H4 m;have l4:v3.heap.size≤v4.heap.size:=m.size;have HFB:Hid (iT ⟨sets,ways,es⟩ ⟨vv,lv,tg,asd,gl,pt⟩=FB):=HFi.out.trans hFB;clear HFi hFB HC HT3 HG HV P1 P2 P3 H4 O3 A3 m bl;obtain ⟨⟨p0,p1,p2⟩,_,_,_⟩:=ao R4.out;obtain ⟨⟨d0,d1,d2⟩,e0,e1,e2⟩:=ao R3.out;by_cases hok:FB=true∧0≤pick∧pick≤255
  ·obtain ⟨rfl,hp0,hp1⟩:=hok;obtain ⟨pp,hvp,hgp⟩:∃pp,aI ⟨sets,ways,es⟩ pp=true∧aO ⟨vv,lv,tg,asd,gl,pt⟩ pp=true:=by
    have:=HFB.out;simp only [iT,Bool.or_eq_true,Bool.and_eq_true] at this;rcases this with ⟨h1,h2⟩ | ⟨h1,h2⟩
    ·exact ⟨true,h1,h2⟩
    ·exact ⟨false,h1,h2⟩
   obtain ⟨hs,hw,hw',hnw⟩:=fu hvp;simp only at hs hw hw' hnw;rw [HN.out] at hnw;have htg:tg<512:=rP hgp;have htg0:0≤tg:=hx.2.1.1;have HXe:Hid (X=⟨sets,ways,es.set (ek ⟨sets,ways,es⟩ ⟨vv,lv,tg,asd,gl,pt⟩+gY ⟨sets,ways,es⟩ ⟨vv,lv,tg,asd,gl,pt⟩ pick) ⟨vv,lv,tg,asd,gl,pt⟩⟩):=by
    show _=_;rw [←HX.out];unfold cE;rw [if_pos ⟨HFB.out,hp0,hp1⟩]
   obtain ⟨⟨c0,c1,c2⟩,_,_,_⟩:=ao R1.out;obtain ⟨f0,f1,f2,f3,f4,f5⟩:=mj R2.out;have hf1:=po (t:=⟨sets,ways,es⟩) (e:=⟨vv,lv,tg,asd,gl,pt⟩) htg0 hs hw;simp only at hf1;have HIx:=fun pk=>wY (t:=⟨sets,ways,es⟩) (e:=⟨vv,lv,tg,asd,gl,pt⟩) (pick:=pk) hvp htg0;obtain ⟨fi,hfi⟩:∃fi,ek ⟨sets,ways,es⟩ ⟨vv,lv,tg,asd,gl,pt⟩=fi:=⟨_,rfl⟩;have HFi:Hid (ek ⟨sets,ways,es⟩ ⟨vv,lv,tg,asd,gl,pt⟩=fi):=hfi;rw [hfi] at hf1;have hfb:(fi:Int)+ways≤n:=by
    have h3:tg%sets<sets:=Int.emod_lt_of_pos _ (by omega);have h5:(tg%sets+1)*ways≤sets*ways:=Int.mul_le_mul_of_nonneg_right (by omega) (by omega);rw [Int.add_mul] at h5;omega
   have HF1:Hid ((fi:Int)=tg%sets*ways):=hf1;have HWr:Hid (wrap64 (tg%sets*ways)=(fi:Int)):=by
    show _=_;rw [←hf1];unfold wrap64;omega
   clear hfi HIx hf1;go_upto_region 5 with fail;go_cut [9] (fun s9 wx=>s9=.int .i64 fi∧∃q,wx=v4.drewN q)
   case first=>
    rcases hs with rfl | rfl | rfl | rfl;all_goals
     go_quiet (fail);go_wp2_with fail;go_meet;exact ⟨by first | rw [HWr.out] | (rw [HF1.out] <;> simp),nq,rfl⟩
   case rest=>
    obtain ⟨rfl,qd,rfl⟩:=hcut;have A5:Below w.heap.size w (v4.drewN qd):=below_drewN A4 qd;have O5:Hid ((v4.drewN qd).ownsRow v1.heap.size 83 6 (.slice (some ⟨g,0,none⟩) n cp) n (aG es)):=O4;have S1:Hid ((v4.drewN qd).heap[w.heap.size]?=_):=R1;have S2:Hid ((v4.drewN qd).heap[w.heap.size+1]?=_):=R2;have S3:Hid ((v4.drewN qd).heap[w.heap.size+1+1]?=_):=R3;have S4:Hid ((v4.drewN qd).heap[v2.heap.size]?=_):=R4;have l5:v3.heap.size≤(v4.drewN qd).heap.size:=l4;generalize v4.drewN qd=v5 at A5 O5 S1 S2 S3 S4 l5 ⊢;clear O4 R1 R2 R3 R4 l4 A4 c0 c1 c2 f0 f1 f2 f3 f4 f5 p0 p1 p2 d0 d1 d2 e0 e1 e2;go_wp2_with fail;go_loopw [10] (fun i wr=>∃k:Nat,(k:Int)≤ways∧i=.int .i64 k∧(∀j,j<k→(es[fi+j]?.getD bQ).valid=true)∧Below v5.heap.size v5 wr) (fun i _=>ways.toNat-(intOf i).toNat)
    case atStart=>exact ⟨0,by omega,rfl,fun j hj=>absurd hj (by omega),Below.refl _ _⟩
    case round=>
     obtain ⟨k,hk,rfl,hall,hb⟩:=hrel;have HAll:Hid (∀j,j<k→(es[fi+j]?.getD bQ).valid=true):=hall;have HO:Hid (wr.ownsRow v1.heap.size 83 6 (.slice (some ⟨g,0,none⟩) n cp) n (aG es)):=ak O5.out hb;have A6:=Below.step A5 hb (Nat.le_refl _);have lr:v3.heap.size≤wr.heap.size:=Nat.le_trans l5 hb.size;obtain ⟨⟨c0,c1,c2⟩,_,_,_⟩:=ao (ab S1.out hb (by omega));obtain ⟨f0,f1,f2,f3,f4,f5⟩:=mj (ab S2.out hb (by omega));obtain ⟨⟨d0,d1,d2⟩,e0,e1,e2⟩:=ao (ab S3.out hb (by omega));obtain ⟨⟨p0,p1,p2⟩,_,_,_⟩:=ao (ab S4.out hb (by omega));clear hall;by_cases hlt:(k:Int)<ways
     ·obtain ⟨x,hx'⟩:∃x,es[fi+k]?=some x:=⟨_,List.getElem?_eq_getElem (by rw [HN.out];omega)⟩;obtain ⟨b,off,rfl,hbb⟩:∃b off,a=some ⟨b,off,none⟩∧b<w.heap.size:=by
       rcases HR0.out.2 with h | ⟨b,off,h,h2,_⟩
       ·omega
       ·exact ⟨b,off,h,h2⟩
      have CE:∀j u,j<6→(gX x)[j]?=some u→wr.cell? ⟨b,off+((fi+k)*6+j),none⟩=some u:=fun j u hj hu=>
       Below.cell2 A6 (dG HR0.out HN.out (fi+k) x hx' j u hj hu) hbb
      obtain ⟨xv,x1,x2,x3,x4,x5⟩:=x;have g0:wr.cell? ⟨b,off+(fi+k)*6,none⟩=some (.bool xv):=CE 0 _ (by omega) rfl;have g1:wr.cell? ⟨b,off+(fi+k)*6+1,none⟩=some (.int .i64 x1):=CE 1 _ (by omega) rfl;have g2:wr.cell? ⟨b,off+(fi+k)*6+2,none⟩=some (.int .u64 x2):=CE 2 _ (by omega) rfl;have g3:wr.cell? ⟨b,off+(fi+k)*6+3,none⟩=some (.int .u64 x3):=CE 3 _ (by omega) rfl;have g4:wr.cell? ⟨b,off+(fi+k)*6+4,none⟩=some (.bool x4):=CE 4 _ (by omega) rfl;have g5:wr.cell? ⟨b,off+(fi+k)*6+5,none⟩=some (.int .u64 x5):=CE 5 _ (by omega) rfl;have HXv:Hid ((es[fi+k]?.getD bQ).valid=xv):=by show _=_;rw [hx'];rfl
      clear CE hx';cases xv
      ·have HXf:Hid (X=⟨sets,ways,es.set (fi+k) ⟨vv,lv,tg,asd,gl,pt⟩⟩):=by
        show _=_;rw [HXe.out,HFi.out];have:gY ⟨sets,ways,es⟩ ⟨vv,lv,tg,asd,gl,pt⟩ pick=k:=by
         unfold gY;simp only;rw [HFi.out,kj es fi ways.toNat 0 k (by omega) (fun j hj=>by rw [Nat.zero_add];exact HAll.out j hj) (by rw [Nat.zero_add];exact HXv.out)];simp
        rw [this]
       have hcl:(aG es).length=n*6:=by rw [dC,HN.out]
       have y0:=aB HO.out ((fi+k)*6) _ (List.getElem?_eq_getElem (by omega));have y1:=aB HO.out ((fi+k)*6+1) _ (List.getElem?_eq_getElem (by omega));have y2:=aB HO.out ((fi+k)*6+2) _ (List.getElem?_eq_getElem (by omega));have y3:=aB HO.out ((fi+k)*6+3) _ (List.getElem?_eq_getElem (by omega));have y4:=aB HO.out ((fi+k)*6+4) _ (List.getElem?_eq_getElem (by omega));have y5:=aB HO.out ((fi+k)*6+5) _ (List.getElem?_eq_getElem (by omega));generalize (aG es)[(fi+k)*6]'_=z0 at y0;generalize (aG es)[(fi+k)*6+1]'_=z1 at y1;generalize (aG es)[(fi+k)*6+2]'_=z2 at y2;generalize (aG es)[(fi+k)*6+3]'_=z3 at y3;generalize (aG es)[(fi+k)*6+4]'_=z4 at y4;generalize (aG es)[(fi+k)*6+5]'_=z5 at y5;have r0:=aJ HO.out ((fi+k)*6);have r1:=aJ HO.out ((fi+k)*6+1);have r2:=aJ HO.out ((fi+k)*6+2);have r3:=aJ HO.out ((fi+k)*6+3);have r4:=aJ HO.out ((fi+k)*6+4);have r5:=aJ HO.out ((fi+k)*6+5);clear hcl;go_wp2_with fail;refine bodyPost_ret (v:=.agg #[.int .i64 sets,.int .i64 ways,.slice (some ⟨g,0,none⟩) n cp]) (by simp [results,Tryz.results46,go_sem,d0,d1,d2]) rfl ⟨⟨_,rfl,?_⟩,du (A6.grown (aq (aq (aq (aq (aq (aq (az wr (some g)) _ _) _ _) _ _) _ _) _ _) _ _) (by have:=A6.size;omega) (fun q hq=>by cases hq;omega)) (by omega) _ _ _⟩;rw [HXf.out];refine ⟨g,cp,by simp only [List.length_set];rw [HN.out],?_⟩;simp only [List.length_set];rw [HN.out,fC es (fi+k) _ (by rw [HN.out];omega)];exact aX (cK (aC (aC (aC (aC (aC (aC HO.out _ _) _ _) _ _) _ _) _ _) _ _) (gb3 _ (w.heap.size+1+1) _ _ _) (by omega)) (by omega)
      ·go_wp2_with fail;go_roundw
       case rel=>exact ⟨k+1,by omega,by go_num,fun j hj=>by
        by_cases e:j=k
        ·subst e;exact HXv.out
        ·exact HAll.out j (by omega),hb⟩
       case measure=>simp [intOf];omega
     ·have hkw:(k:Int)=ways:=by omega
      obtain ⟨pk,hpk⟩:=Int.eq_ofNat_of_zero_le (Int.emod_nonneg pick (show ways≠0 by omega));have hpk':(pk:Int)<ways:=by rw [←hpk];exact Int.emod_lt_of_pos _ (by omega)
      have HXf:Hid (X=⟨sets,ways,es.set (fi+pk) ⟨vv,lv,tg,asd,gl,pt⟩⟩):=by
       show _=_;rw [HXe.out,HFi.out];have:gY ⟨sets,ways,es⟩ ⟨vv,lv,tg,asd,gl,pt⟩ pick=pk:=by
        unfold gY;simp only;rw [HFi.out,kl es fi ways.toNat 0 (fun j hj=>by rw [Nat.zero_add];exact HAll.out j (by omega)),hpk];simp
       rw [this]
      have hcl:(aG es).length=n*6:=by rw [dC,HN.out]
      have y0:=aB HO.out ((fi+pk)*6) _ (List.getElem?_eq_getElem (by omega));have y1:=aB HO.out ((fi+pk)*6+1) _ (List.getElem?_eq_getElem (by omega));have y2:=aB HO.out ((fi+pk)*6+2) _ (List.getElem?_eq_getElem (by omega));have y3:=aB HO.out ((fi+pk)*6+3) _ (List.getElem?_eq_getElem (by omega));have y4:=aB HO.out ((fi+pk)*6+4) _ (List.getElem?_eq_getElem (by omega));have y5:=aB HO.out ((fi+pk)*6+5) _ (List.getElem?_eq_getElem (by omega));generalize (aG es)[(fi+pk)*6]'_=z0 at y0;generalize (aG es)[(fi+pk)*6+1]'_=z1 at y1;generalize (aG es)[(fi+pk)*6+2]'_=z2 at y2;generalize (aG es)[(fi+pk)*6+3]'_=z3 at y3;generalize (aG es)[(fi+pk)*6+4]'_=z4 at y4;generalize (aG es)[(fi+pk)*6+5]'_=z5 at y5;have r0:=aJ HO.out ((fi+pk)*6);have r1:=aJ HO.out ((fi+pk)*6+1);have r2:=aJ HO.out ((fi+pk)*6+2);have r3:=aJ HO.out ((fi+pk)*6+3);have r4:=aJ HO.out ((fi+pk)*6+4);have r5:=aJ HO.out ((fi+pk)*6+5);clear hcl;have hrem:pick.tmod ways=(pk:Int):=by rw [Int.tmod_eq_emod_of_nonneg hp0];exact hpk
      have hwz:ways≠0:=by omega
      clear hpk;have i1:g≠w.heap.size:=by omega
      have i2:w.heap.size≠g:=by omega
      have i3:g≠w.heap.size+1:=by omega
      have i4:w.heap.size+1≠g:=by omega
      have i5:g≠v2.heap.size:=by omega
      have i6:v2.heap.size≠g:=by omega
      go_wp2_with fail;have t1:IntKind.i64.wrap ((fi:Int)+(pk:Int))=(fi:Int)+pk:=by
       rw [IntKind.wrap_i64];omega
      have t2:(0:Int)≤(fi:Int)+pk:=by omega
      have t3:(fi:Int)+pk<n:=by omega
      go_region_held (fun w'=>w'.cell? ⟨v2.heap.size,2,none⟩=some (.slice (some ⟨g,0,none⟩) n cp)∧w'.cell? ⟨w.heap.size,1,none⟩=some (.int .i64 ways)∧w'.cell? ⟨w.heap.size+1,0,none⟩=some (.bool vv)∧w'.cell? ⟨w.heap.size+1,1,none⟩=some (.int .i64 lv)∧w'.cell? ⟨w.heap.size+1,2,none⟩=some (.int .u64 tg)∧w'.cell? ⟨w.heap.size+1,3,none⟩=some (.int .u64 asd)∧w'.cell? ⟨w.heap.size+1,4,none⟩=some (.bool gl)∧w'.cell? ⟨w.heap.size+1,5,none⟩=some (.int .u64 pt)) (go_keep) (fail);go_wp2_with fail;refine bodyPost_ret (v:=.agg #[.int .i64 sets,.int .i64 ways,.slice (some ⟨g,0,none⟩) n cp]) (by simp [results,Tryz.results46,go_sem,d0,d1,d2]) rfl ⟨⟨_,rfl,?_⟩,(du (A6.grown (aq (aq (aq (aq (aq (aq (az wr (some g)) _ _) _ _) _ _) _ _) _ _) _ _) (by have:=A6.size;omega) (fun q hq=>by cases hq;omega)) (by omega) _ _ _).drew⟩;rw [HXf.out];refine ⟨g,cp,by simp only [List.length_set];rw [HN.out],?_⟩;simp only [List.length_set];rw [HN.out,fC es (fi+pk) _ (by rw [HN.out];omega)];exact aX (iB (cK (aC (aC (aC (aC (aC (aC HO.out _ _) _ _) _ _) _ _) _ _) _ _) (gb3 _ (w.heap.size+1+1) _ _ _) (by omega))) (by omega)
  ·have hXt:X=⟨sets,ways,es⟩:=by
    rw [←HX.out];unfold cE;rw [if_neg (by rw [HFB.out];exact hok)]
   have fin:∀v5,v5=v4→TlbOwn w.heap.size (((v5.setCell ⟨w.heap.size+1+1,0,none⟩ (.int .i64 sets)).setCell ⟨w.heap.size+1+1,1,none⟩ (.int .i64 ways)).setCell ⟨w.heap.size+1+1,2,none⟩ (.slice (some ⟨g,0,none⟩) n cp)) (.agg #[.int .i64 sets,.int .i64 ways,.slice (some ⟨g,0,none⟩) n cp]) X:=by
    rintro _ rfl;rw [hXt];refine ⟨g,cp,by rw [HN.out],?_⟩;simp only;rw [HN.out];exact aX (cK O4.out (gb3 _ (w.heap.size+1+1) _ _ _) (by omega)) (by omega)
   have HFin:Hid _:=fin;clear fin hXt;cases FB
   ·go_wp2_with fail;exact bodyPost_ret (v:=.agg #[.int .i64 sets,.int .i64 ways,.slice (some ⟨g,0,none⟩) n cp]) (by simp [results,Tryz.results46,go_sem,d0,d1,d2]) rfl ⟨⟨_,rfl,(by first | exact HFin.out _ rfl | exact TlbOwn.drew (HFin.out _ rfl))⟩,(by first | exact du A4 (by omega) _ _ _ | exact (du A4 (by omega) _ _ _).drew)⟩
   ·by_cases hpn:pick<0
    ·go_wp2_with fail;exact bodyPost_ret (v:=.agg #[.int .i64 sets,.int .i64 ways,.slice (some ⟨g,0,none⟩) n cp]) (by simp [results,Tryz.results46,go_sem,d0,d1,d2]) rfl ⟨⟨_,rfl,(by first | exact HFin.out _ rfl | exact TlbOwn.drew (HFin.out _ rfl))⟩,(by first | exact du A4 (by omega) _ _ _ | exact (du A4 (by omega) _ _ _).drew)⟩
    ·have hpg:255<pick:=by
      have:=hok;simp at this;omega
     go_wp2_with fail;exact bodyPost_ret (v:=.agg #[.int .i64 sets,.int .i64 ways,.slice (some ⟨g,0,none⟩) n cp]) (by simp [results,Tryz.results46,go_sem,d0,d1,d2]) rfl ⟨⟨_,rfl,(by first | exact HFin.out _ rfl | exact TlbOwn.drew (HFin.out _ rfl))⟩,(by first | exact du A4 (by omega) _ _ _ | exact (du A4 (by omega) _ _ _).drew)⟩
end Go.Proofs.YthekickjjaleaaaGreat

namespace Go.Proofs.YthekickjjaleaaaGreat
open Go.RowKit
set_option linter.unusedVariables false
attribute [local go_sem ↓] Go.wp_at_zero Go.wp_at_succ
theorem cT {v:World} {p:Nat} {T:TypeId} {a b c d e f g h i:Value} (hh:v.heap[p]?=some (.cells #[a,b,c,d,e,f,g,h,i] T (0,0))):
 v.cell? ⟨p,0,none⟩=some a∧v.cell? ⟨p,1,none⟩=some b∧v.cell? ⟨p,2,none⟩=some c∧v.cell? ⟨p,3,none⟩=some d∧v.cell? ⟨p,4,none⟩=some e∧v.cell? ⟨p,5,none⟩=some f∧v.cell? ⟨p,6,none⟩=some g∧v.cell? ⟨p,7,none⟩=some h∧v.cell? ⟨p,8,none⟩=some i:=by
 simp [World.cell?,hh]
theorem xj {B:Nat} {a w:World} {g:Nat} (h:Below B a w) (hg:B≤g) (x y z u v t:Value):Below B a ((((((w.setCell ⟨g,0,none⟩ x).setCell ⟨g,1,none⟩ y).setCell ⟨g,2,none⟩ z).setCell ⟨g,3,none⟩ u).setCell ⟨g,4,none⟩ v).setCell ⟨g,5,none⟩ t):=
 (((du h hg x y z).setCell (p:=⟨g,3,none⟩) hg u).setCell (p:=⟨g,4,none⟩) hg v).setCell (p:=⟨g,5,none⟩) hg t
theorem xt {B:Nat} {a w:World} {g:Nat} (h:Below B a w) (hg:B≤g) (x y z u v t p q r:Value):Below B a (((((((((w.setCell ⟨g,0,none⟩ x).setCell ⟨g,1,none⟩ y).setCell ⟨g,2,none⟩ z).setCell ⟨g,3,none⟩ u).setCell ⟨g,4,none⟩ v).setCell ⟨g,5,none⟩ t).setCell ⟨g,6,none⟩ p).setCell ⟨g,7,none⟩ q).setCell ⟨g,8,none⟩ r):=
 (((xj h hg x y z u v t).setCell (p:=⟨g,6,none⟩) hg p).setCell (p:=⟨g,7,none⟩) hg q).setCell (p:=⟨g,8,none⟩) hg r
theorem gb9 (w:World) (g:Nat) (x y z u v t p q r:Value):w.grownBy (((((((((w.setCell ⟨g,0,none⟩ x).setCell ⟨g,1,none⟩ y).setCell ⟨g,2,none⟩ z).setCell ⟨g,3,none⟩ u).setCell ⟨g,4,none⟩ v).setCell ⟨g,5,none⟩ t).setCell ⟨g,6,none⟩ p).setCell ⟨g,7,none⟩ q).setCell ⟨g,8,none⟩ r) (some g):=
 aq (aq (aq (aq (aq (aq (aq (aq (aq (az w (some g)) 0 x) 1 y) 2 z) 3 u) 4 v) 5 t) 6 p) 7 q) 8 r
theorem uu {v:World} {p:Nat} {T:TypeId} {cs:Array Value} (hh:v.heap[p]?=some (.cells cs T (0,0))) (i:Nat):v.frozen? ⟨p,i,none⟩=false:=by
 simp [World.frozen?,hh]
def KAt (w:World) (v:Value) (k:KM):Prop:=
 ∃a1 c1 a2 c2 a3 c3,v=.agg #[.int .i64 k.i.sets,.int .i64 k.i.ways,.slice a1 k.i.es.length c1,.int .i64 k.d.sets,.int .i64 k.d.ways,.slice a2 k.d.es.length c2,.int .i64 k.p.sets,.int .i64 k.p.ways,.slice a3 k.p.es.length c3]∧
  TlbAt w (.agg #[.int .i64 k.i.sets,.int .i64 k.i.ways,.slice a1 k.i.es.length c1]) k.i∧TlbAt w (.agg #[.int .i64 k.d.sets,.int .i64 k.d.ways,.slice a2 k.d.es.length c2]) k.d∧TlbAt w (.agg #[.int .i64 k.p.sets,.int .i64 k.p.ways,.slice a3 k.p.es.length c3]) k.p
theorem KAt.keep {w w':World} {v:Value} {k:KM} (h:KAt w v k) (hb:Below w.heap.size w w'):KAt w' v k:=by
 obtain ⟨a1,c1,a2,c2,a3,c3,rfl,h1,h2,h3⟩:=h;exact ⟨a1,c1,a2,c2,a3,c3,rfl,h1.keep hb,h2.keep hb,h3.keep hb⟩
set_option maxHeartbeats 800000 in
theorem ef (v:Value) (k:KM) (w:World) (h:KAt w v k):
 Calls Tryz.prog 72 #[v] w fun e w'=>e=.returned (.bool (bs k))∧Below w.heap.size w w':=by
 obtain ⟨a1,c1,a2,c2,a3,c3,rfl,t1,t2,t3⟩:=h;obtain ⟨q1,hq1⟩:∃q,aI k.i false=q:=⟨_,rfl⟩;obtain ⟨q2,hq2⟩:∃q,aI k.d false=q:=⟨_,rfl⟩;obtain ⟨q3,hq3⟩:∃q,aI k.p true=q:=⟨_,rfl⟩;unfold bs;rw [hq1,hq2,hq3];have n1:=(Below.refl w.heap.size w).alloc (Nat.le_refl _) (Obj.cells #[.int .i64 k.i.sets,.int .i64 k.i.ways,.slice a1 k.i.es.length c1,.int .i64 k.d.sets,.int .i64 k.d.ways,.slice a2 k.d.es.length c2,.int .i64 k.p.sets,.int .i64 k.p.ways,.slice a3 k.p.es.length c3] 43);have HV1:Hid (∀v,Below w.heap.size w v→Calls Tryz.prog 31 #[.agg #[.int .i64 k.i.sets,.int .i64 k.i.ways,.slice a1 k.i.es.length c1],.bool false] v fun e w'=>e=.returned (.bool q1)∧Below v.heap.size v w'):=fun v hv=>by
  have:=er _ _ false v (t1.keep hv);rw [hq1] at this;exact this
 have HV2:Hid (∀v,Below w.heap.size w v→Calls Tryz.prog 31 #[.agg #[.int .i64 k.d.sets,.int .i64 k.d.ways,.slice a2 k.d.es.length c2],.bool false] v fun e w'=>e=.returned (.bool q2)∧Below v.heap.size v w'):=fun v hv=>by
  have:=er _ _ false v (t2.keep hv);rw [hq2] at this;exact this
 have HV3:Hid (∀v,Below w.heap.size w v→Calls Tryz.prog 31 #[.agg #[.int .i64 k.p.sets,.int .i64 k.p.ways,.slice a3 k.p.es.length c3],.bool true] v fun e w'=>e=.returned (.bool q3)∧Below v.heap.size v w'):=fun v hv=>by
  have:=er _ _ true v (t3.keep hv);rw [hq3] at this;exact this
 have H1:Hid (∀v,Below (w.heap.size+1) (w.alloc (Obj.cells #[.int .i64 k.i.sets,.int .i64 k.i.ways,.slice a1 k.i.es.length c1,.int .i64 k.d.sets,.int .i64 k.d.ways,.slice a2 k.d.es.length c2,.int .i64 k.p.sets,.int .i64 k.p.ways,.slice a3 k.p.es.length c3] 43)) v→v.heap[w.heap.size]?=some (.cells #[.int .i64 k.i.sets,.int .i64 k.i.ways,.slice a1 k.i.es.length c1,.int .i64 k.d.sets,.int .i64 k.d.ways,.slice a2 k.d.es.length c2,.int .i64 k.p.sets,.int .i64 k.p.ways,.slice a3 k.p.es.length c3] 43 (0,0))):=
  fun v hv=>(hv.block w.heap.size (by omega)).trans (heap_alloc_new w _)
 clear t1 t2 t3 hq1 hq2 hq3;generalize k.i.sets=s1 at *;generalize k.i.ways=w1 at *;generalize k.i.es.length=m1 at *;generalize k.d.sets=s2 at *;generalize k.d.ways=w2 at *;generalize k.d.es.length=m2 at *;generalize k.p.sets=s3 at *;generalize k.p.ways=w3 at *;generalize k.p.es.length=m3 at *;cases q1
 ·go_enter Tryz.func72,Tryz.ntmps72;go_wp2_with fail;refine (HV1.out _ n1).mono ?_;rintro e v2 ⟨rfl,n2⟩;have n12:=Below.step n1 n2 (Nat.le_refl _);go_wp2_with fail;go_ret;exact ⟨rfl,n12⟩
 ·go_enter Tryz.func72,Tryz.ntmps72;go_wp2_with fail;refine (HV1.out _ n1).mono ?_;rintro e v2 ⟨rfl,n2⟩;have n12:=Below.step n1 n2 (Nat.le_refl _);have K2:=cT (H1.out v2 (n2.mono (by simp)));obtain ⟨x0,x1,x2,x3,x4,x5,x6,x7,x8⟩:=K2;cases q2
  ·go_wp2_with fail;refine (HV2.out _ n12).mono ?_;rintro e v3 ⟨rfl,n3⟩;have n13:=Below.step n12 n3 (Nat.le_refl _);go_wp2_with fail;go_ret;exact ⟨rfl,n13⟩
  ·go_wp2_with fail;refine (HV2.out _ n12).mono ?_;rintro e v3 ⟨rfl,n3⟩;have n13:=Below.step n12 n3 (Nat.le_refl _);have n23:=Below.step n2 n3 (Nat.le_refl _);clear x0 x1 x2 x3 x4 x5 x6 x7 x8;have K3:=cT (H1.out v3 (n23.mono (by simp)));obtain ⟨x0,x1,x2,x3,x4,x5,x6,x7,x8⟩:=K3;go_wp2_with fail;refine (HV3.out _ n13).mono ?_;rintro e v4 ⟨rfl,n4⟩;have n14:=Below.step n13 n4 (Nat.le_refl _);go_wp2_with fail;go_ret;exact ⟨by simp,n14⟩
set_option maxHeartbeats 800000 in
theorem jt (level va satp pte:Int) (w:World) (hl0:0≤level) (hl2:level≤2) (hv0:0≤va) (hv1:va≤18446744073709551615) (hs0:0≤satp) (hs1:satp≤18446744073709551615) (hp0:0≤pte) (hp1:pte≤18446744073709551615):
 Calls Tryz.prog 81 #[.int .i64 level,.int .u64 va,.int .u64 satp,.int .u64 pte] w fun e w'=>e=.returned (gx (eF level va satp pte))∧Below w.heap.size w w':=by
 unfold gx eF;simp only;have n1:=(Below.refl w.heap.size w).alloc (Nat.le_refl _) (Obj.cells #[.bool false,.int .i64 0,.int .u64 0,.int .u64 0,.bool false,.int .u64 0] 83);go_enter Tryz.func81,Tryz.ntmps81;go_wp2_with (first
  | (go_at_call 133;refine (oU va level _ hv0 hv1 hl0 hl2).mono ?_;rintro e w' ⟨rfl,nq,rfl⟩)
  | (go_at_call 75;refine (mn satp _ hs0 hs1).mono ?_;rintro e w' ⟨rfl,nr,rfl⟩)
  | (go_at_call 104;refine (bF pte 5 32 _ hp0 hp1 (by omega) (by omega) rfl).mono ?_;rintro e w' ⟨rfl,ns,rfl⟩))
 exact bodyPost_ret (v:=.agg #[.bool true,.int .i64 level,.int .u64 (ev va level),.int .u64 (aU satp),.bool (bS pte 32),.int .u64 pte]) (by simp [results,Tryz.results81,go_sem]) rfl ⟨rfl,xj (below_drewN n1 _) (Nat.le_refl _) _ _ _ _ _ _⟩
def KOwn (base:Nat) (w:World) (v:Value) (k:KM):Prop:=
 ∃g1 c1 g2 c2 g3 c3,v=.agg #[.int .i64 k.i.sets,.int .i64 k.i.ways,.slice (some ⟨g1,0,none⟩) k.i.es.length c1,.int .i64 k.d.sets,.int .i64 k.d.ways,.slice (some ⟨g2,0,none⟩) k.d.es.length c2,.int .i64 k.p.sets,.int .i64 k.p.ways,.slice (some ⟨g3,0,none⟩) k.p.es.length c3]∧
  w.ownsRow base 83 6 (.slice (some ⟨g1,0,none⟩) k.i.es.length c1) k.i.es.length (aG k.i.es)∧w.ownsRow base 83 6 (.slice (some ⟨g2,0,none⟩) k.d.es.length c2) k.d.es.length (aG k.d.es)∧w.ownsRow base 83 6 (.slice (some ⟨g3,0,none⟩) k.p.es.length c3) k.p.es.length (aG k.p.es)
set_option maxRecDepth 20000 in
set_option maxHeartbeats 1600000 in
theorem fs (v:Value) (k:KM) (w:World) (h:KAt w v k):
 Calls Tryz.prog 73 #[v] w fun e w'=>(∃x,e=.returned x∧KOwn w.heap.size w' x k)∧Below w.heap.size w w':=by
 obtain ⟨a1,c1,a2,c2,a3,c3,rfl,t1,t2,t3⟩:=h;have HL1:Hid (∀v,Below w.heap.size w v→Calls Tryz.prog 124 #[.agg #[.int .i64 k.i.sets,.int .i64 k.i.ways,.slice a1 k.i.es.length c1]] v fun e w'=>(∃x,e=.returned x∧TlbOwn v.heap.size w' x k.i)∧Below v.heap.size v w'):=fun v hv=>fe _ _ v (t1.keep hv);have HL2:Hid (∀v,Below w.heap.size w v→Calls Tryz.prog 124 #[.agg #[.int .i64 k.d.sets,.int .i64 k.d.ways,.slice a2 k.d.es.length c2]] v fun e w'=>(∃x,e=.returned x∧TlbOwn v.heap.size w' x k.d)∧Below v.heap.size v w'):=fun v hv=>fe _ _ v (t2.keep hv);have HL3:Hid (∀v,Below w.heap.size w v→Calls Tryz.prog 124 #[.agg #[.int .i64 k.p.sets,.int .i64 k.p.ways,.slice a3 k.p.es.length c3]] v fun e w'=>(∃x,e=.returned x∧TlbOwn v.heap.size w' x k.p)∧Below v.heap.size v w'):=fun v hv=>fe _ _ v (t3.keep hv);clear t1 t2 t3;unfold TlbOwn at HL1 HL2 HL3;unfold KOwn;generalize k.i.es=e1 at *;generalize k.d.es=e2 at *;generalize k.p.es=e3 at *;generalize k.i.sets=s1 at *;generalize k.i.ways=w1 at *;generalize k.d.sets=s2 at *;generalize k.d.ways=w2 at *;generalize k.p.sets=s3 at *;generalize k.p.ways=w3 at *;obtain ⟨m1,hm1⟩:∃m,e1.length=m:=⟨_,rfl⟩;obtain ⟨m2,hm2⟩:∃m,e2.length=m:=⟨_,rfl⟩;obtain ⟨m3,hm3⟩:∃m,e3.length=m:=⟨_,rfl⟩;rw [hm1] at HL1 ⊢;rw [hm2] at HL2 ⊢;rw [hm3] at HL3 ⊢;clear hm1 hm2 hm3;generalize aG e1=q1 at *;generalize aG e2=q2 at *;generalize aG e3=q3 at *;have n1:=((Below.refl w.heap.size w).alloc (Nat.le_refl _) (Obj.cells #[.int .i64 s1,.int .i64 w1,.slice a1 m1 c1,.int .i64 s2,.int .i64 w2,.slice a2 m2 c2,.int .i64 s3,.int .i64 w3,.slice a3 m3 c3] 43)).alloc (by simp) (Obj.cells #[.int .i64 0,.int .i64 0,.slice none 0 0,.int .i64 0,.int .i64 0,.slice none 0 0,.int .i64 0,.int .i64 0,.slice none 0 0] 43);have H1:Hid (((w.alloc (Obj.cells #[.int .i64 s1,.int .i64 w1,.slice a1 m1 c1,.int .i64 s2,.int .i64 w2,.slice a2 m2 c2,.int .i64 s3,.int .i64 w3,.slice a3 m3 c3] 43)).alloc (Obj.cells #[.int .i64 0,.int .i64 0,.slice none 0 0,.int .i64 0,.int .i64 0,.slice none 0 0,.int .i64 0,.int .i64 0,.slice none 0 0] 43)).heap[w.heap.size]?=some (.cells #[.int .i64 s1,.int .i64 w1,.slice a1 m1 c1,.int .i64 s2,.int .i64 w2,.slice a2 m2 c2,.int .i64 s3,.int .i64 w3,.slice a3 m3 c3] 43 (0,0))):=by
  show _=_;rw [heap_alloc_old _ _ (by simp)];exact heap_alloc_new w _
 have H2:Hid (((w.alloc (Obj.cells #[.int .i64 s1,.int .i64 w1,.slice a1 m1 c1,.int .i64 s2,.int .i64 w2,.slice a2 m2 c2,.int .i64 s3,.int .i64 w3,.slice a3 m3 c3] 43)).alloc (Obj.cells #[.int .i64 0,.int .i64 0,.slice none 0 0,.int .i64 0,.int .i64 0,.slice none 0 0,.int .i64 0,.int .i64 0,.slice none 0 0] 43)).heap[w.heap.size+1]?=some (.cells #[.int .i64 0,.int .i64 0,.slice none 0 0,.int .i64 0,.int .i64 0,.slice none 0 0,.int .i64 0,.int .i64 0,.slice none 0 0] 43 (0,0))):=by
  have:=heap_alloc_new (w.alloc (Obj.cells #[.int .i64 s1,.int .i64 w1,.slice a1 m1 c1,.int .i64 s2,.int .i64 w2,.slice a2 m2 c2,.int .i64 s3,.int .i64 w3,.slice a3 m3 c3] 43)) (Obj.cells #[.int .i64 0,.int .i64 0,.slice none 0 0,.int .i64 0,.int .i64 0,.slice none 0 0,.int .i64 0,.int .i64 0,.slice none 0 0] 43);simp only [World.size_alloc] at this;exact this
 have l1:w.heap.size+1<((w.alloc (Obj.cells #[.int .i64 s1,.int .i64 w1,.slice a1 m1 c1,.int .i64 s2,.int .i64 w2,.slice a2 m2 c2,.int .i64 s3,.int .i64 w3,.slice a3 m3 c3] 43)).alloc (Obj.cells #[.int .i64 0,.int .i64 0,.slice none 0 0,.int .i64 0,.int .i64 0,.slice none 0 0,.int .i64 0,.int .i64 0,.slice none 0 0] 43)).heap.size:=by simp
 go_enter Tryz.func73,Tryz.ntmps73;go_wp2_with fail;generalize ((w.alloc (Obj.cells #[.int .i64 s1,.int .i64 w1,.slice a1 m1 c1,.int .i64 s2,.int .i64 w2,.slice a2 m2 c2,.int .i64 s3,.int .i64 w3,.slice a3 m3 c3] 43)).alloc (Obj.cells #[.int .i64 0,.int .i64 0,.slice none 0 0,.int .i64 0,.int .i64 0,.slice none 0 0,.int .i64 0,.int .i64 0,.slice none 0 0] 43))=v1 at n1 H1 H2 l1 ⊢;have HC:Hid (∀v,Below v1.heap.size v1 v→v.cell? ⟨w.heap.size,0,none⟩=some (.int .i64 s1)∧v.cell? ⟨w.heap.size,1,none⟩=some (.int .i64 w1)∧v.cell? ⟨w.heap.size,2,none⟩=some (.slice a1 m1 c1)∧v.cell? ⟨w.heap.size,3,none⟩=some (.int .i64 s2)∧v.cell? ⟨w.heap.size,4,none⟩=some (.int .i64 w2)∧v.cell? ⟨w.heap.size,5,none⟩=some (.slice a2 m2 c2)∧v.cell? ⟨w.heap.size,6,none⟩=some (.int .i64 s3)∧v.cell? ⟨w.heap.size,7,none⟩=some (.int .i64 w3)∧v.cell? ⟨w.heap.size,8,none⟩=some (.slice a3 m3 c3)):=fun v hv=>cT (ab H1.out hv (by omega));obtain ⟨b0,b1,b2,b3,b4,b5,b6,b7,b8⟩:=HC.out v1 (Below.refl _ _);have i1:w.heap.size+1≠w.heap.size:=by omega
 have i2:w.heap.size≠w.heap.size+1:=by omega
 go_region_held3 (fun w'=>w'.cell? ⟨w.heap.size,0,none⟩=some (.int .i64 s1)∧w'.cell? ⟨w.heap.size,1,none⟩=some (.int .i64 w1)∧w'.cell? ⟨w.heap.size,2,none⟩=some (.slice a1 m1 c1)∧w'.cell? ⟨w.heap.size,3,none⟩=some (.int .i64 s2)∧w'.cell? ⟨w.heap.size,4,none⟩=some (.int .i64 w2)∧w'.cell? ⟨w.heap.size,5,none⟩=some (.slice a2 m2 c2)∧w'.cell? ⟨w.heap.size,6,none⟩=some (.int .i64 s3)∧w'.cell? ⟨w.heap.size,7,none⟩=some (.int .i64 w3)∧w'.cell? ⟨w.heap.size,8,none⟩=some (.slice a3 m3 c3)) (go_keep)
  (first
   | (go_at_call_of 124 (Value.agg #[Value.int IntKind.i64 s1,Value.int IntKind.i64 w1,Value.slice a1 m1 c1]);refine (HL1.out _ (Below.step n1 (Below.refl v1.heap.size v1).drew (Nat.le_refl _))).mono ?_;rintro e y1 ⟨⟨x1,rfl,g1,d1,rfl,o1⟩,n1'⟩;have my1:Below v1.heap.size v1 y1:=Below.step (Below.refl v1.heap.size v1).drew n1' (Nat.le_refl _);have kk:=HC.out y1 my1;obtain ⟨z10,z11,z12,z13,z14,z15,z16,z17,z18⟩:=kk;have OO1:Hid _:=o1;clear o1)
   | (go_at_call_of 124 (Value.agg #[Value.int IntKind.i64 s2,Value.int IntKind.i64 w2,Value.slice a2 m2 c2]);refine (HL2.out _ (Below.step n1 my1 (Nat.le_refl _))).mono ?_;rintro e y2 ⟨⟨x2,rfl,g2,d2,rfl,o2⟩,n2'⟩;have my2:Below v1.heap.size v1 y2:=Below.step my1 n2' (Nat.le_refl _);have kk:=HC.out y2 my2;obtain ⟨z20,z21,z22,z23,z24,z25,z26,z27,z28⟩:=kk;have OO2:Hid _:=o2;clear o2;have OP1:Hid _:=ak OO1.out n2';clear OO1)
   | (go_at_call_of 124 (Value.agg #[Value.int IntKind.i64 s3,Value.int IntKind.i64 w3,Value.slice a3 m3 c3]);refine (HL3.out _ (Below.step n1 my2 (Nat.le_refl _))).mono ?_;rintro e y3 ⟨⟨x3,rfl,g3,d3,rfl,o3⟩,n3'⟩;have my3:Below v1.heap.size v1 y3:=Below.step my2 n3' (Nat.le_refl _);have kk:=HC.out y3 my3;obtain ⟨z30,z31,z32,z33,z34,z35,z36,z37,z38⟩:=kk;have OO3:Hid _:=o3;clear o3;have OP1':Hid _:=ak OP1.out n3';have OP2:Hid _:=ak OO2.out n3';clear OP1 OO2;have F3:=ae H2 my3;have ff:=uu F3.out;have f0:=ff 0;have f1:=ff 1;have f2:=ff 2;have f3:=ff 3;have f4:=ff 4;have f5:=ff 5;have f6:=ff 6;have f7:=ff 7;have f8:=ff 8;have kk:=cT F3.out;obtain ⟨j0,j1,j2,j3,j4,j5,j6,j7,j8⟩:=kk;clear ff))
 go_wp2_with fail;have r1:w.heap.size+1<y1.heap.size:=Nat.lt_of_lt_of_le l1 my1.size;have r2:w.heap.size+1<y2.heap.size:=Nat.lt_of_lt_of_le l1 my2.size;exact bodyPost_ret (v:=.agg #[.int .i64 s1,.int .i64 w1,.slice (some ⟨g1,0,none⟩) m1 d1,.int .i64 s2,.int .i64 w2,.slice (some ⟨g2,0,none⟩) m2 d2,.int .i64 s3,.int .i64 w3,.slice (some ⟨g3,0,none⟩) m3 d3]) (by simp [results,Tryz.results73,go_sem,j0,j1,j2,j3,j4,j5,j6,j7,j8]) rfl
  ⟨⟨_,rfl,g1,d1,g2,d2,g3,d3,rfl,aX (cK OP1'.out (gb9 y3 (w.heap.size+1) _ _ _ _ _ _ _ _ _) l1) (Nat.le_of_lt (Nat.lt_trans (Nat.lt_succ_self _) l1)),aX (cK OP2.out (gb9 y3 (w.heap.size+1) _ _ _ _ _ _ _ _ _) r1) (by omega),aX (cK OO3.out (gb9 y3 (w.heap.size+1) _ _ _ _ _ _ _ _ _) r2) (by omega)⟩,xt (Below.step n1 my3 (Nat.le_refl _)) (by omega) _ _ _ _ _ _ _ _ _⟩
theorem KOwn.at {base:Nat} {w:World} {v:Value} {k:KM} (h:KOwn base w v k) (h1:dA k.i) (h2:dA k.d) (h3:dA k.p):KAt w v k:=by
 obtain ⟨g1,c1,g2,c2,g3,c3,rfl,o1,o2,o3⟩:=h;exact ⟨some ⟨g1,0,none⟩,c1,some ⟨g2,0,none⟩,c2,some ⟨g3,0,none⟩,c3,rfl,TlbOwn.at ⟨g1,c1,rfl,o1⟩ h1,TlbOwn.at ⟨g2,c2,rfl,o2⟩ h2,TlbOwn.at ⟨g3,c3,rfl,o3⟩ h3⟩
end Go.Proofs.YthekickjjaleaaaGreat
