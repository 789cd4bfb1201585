import Derived.Deep.CutRange
import Derived.Test.YtaoaifmkhbgaiaaGreatPk16
import Derived.Test.YtaoaifmkhbgaiaaGreatPk18
import Derived.Test.YtaoaifmkhbgaiaaGreatPk06
namespace Go.Proofs.YtaoaifmkhbgaiaaGreat
open Go.RowKit
set_option linter.unusedVariables false
theorem df:(Tryz.prog.info? 28).map (·.size)=some 3:=by kernel_rfl
theorem mV:(Tryz.prog.info? 62).map (·.size)=some 6:=by kernel_rfl
abbrev gM (e:EntM):Array Value:=#[.bool e.valid,.int .i64 e.level,.int .u64 e.tag,.int .u64 e.asid,.bool e.glob,.int .u64 e.pte]
structure SpS (w:World) (p:Nat) (f:Nat→Int) (k:Nat) (wr:World) (b4 b5 b8 g n cp:Nat) (sets ways:Int) (es:List EntM) (e:EntM):Prop where
 d:DrewN w p f k wr
 h4:wr.heap[b4]?=some (.cells #[.int .i64 0,.int .i64 0,.slice none 0 0] 28 (0,0))
 h5:wr.heap[b5]?=some (.cells #[.int .i64 sets,.int .i64 ways,.slice (some ⟨g,0,none⟩) n cp] 28 (0,0))
 h8:wr.heap[b8]?=some (.cells (gM e) 62 (0,0))
 row:wr.ownsRow w.heap.size 62 6 (.slice (some ⟨g,0,none⟩) n cp) n (aL es)
 l4:w.heap.size≤b4
 l5:w.heap.size≤b5
 l8:w.heap.size≤b8
 n45:b4≠b5
 ng8:g≠b8
 n58:b5≠b8
 n48:b4≠b8
theorem SpS.put5 {w wr:World} {p:Nat} {f:Nat→Int} {k b4 b5 b8 g n cp:Nat} {sets ways sets' ways':Int} {es:List EntM} {e:EntM} (s:SpS w p f k wr b4 b5 b8 g n cp sets ways es e) (hp:p<w.heap.size) (i:Nat) (x:Value) (he:(#[.int .i64 sets,.int .i64 ways,.slice (some ⟨g,0,none⟩) n cp]:Array Value).setIfInBounds i x=#[.int .i64 sets',.int .i64 ways',.slice (some ⟨g,0,none⟩) n cp]):SpS w p f k (wr.setCell ⟨b5,i,none⟩ x) b4 b5 b8 g n cp sets' ways' es e:=
 have gS:=ax (aE wr (some b5)) i x
 ⟨s.d.own gS s.l5 hp,dJ s.h4 i x s.n45,by rw [←he];exact da s.h5 i x,dJ s.h8 i x (Ne.symm s.n58),bT s.row s.h5 (by decide) gS,s.l4,s.l5,s.l8,s.n45,s.ng8,s.n58,s.n48⟩
theorem SpS.put8 {w wr:World} {p:Nat} {f:Nat→Int} {k b4 b5 b8 g n cp:Nat} {sets ways:Int} {es:List EntM} {e e':EntM} (s:SpS w p f k wr b4 b5 b8 g n cp sets ways es e) (hp:p<w.heap.size) (i:Nat) (x:Value) (he:(gM e).setIfInBounds i x=gM e'):SpS w p f k (wr.setCell ⟨b8,i,none⟩ x) b4 b5 b8 g n cp sets ways es e':=
 have gS:=ax (aE wr (some b8)) i x
 ⟨s.d.own gS s.l8 hp,dJ s.h4 i x s.n48,dJ s.h5 i x s.n58,by rw [←he];exact da s.h8 i x,bX s.row gS s.ng8,s.l4,s.l5,s.l8,s.n45,s.ng8,s.n58,s.n48⟩
set_option maxRecDepth 20000 in
set_option maxHeartbeats 6400000 in
theorem iO (p:Nat) (f:Nat→Int) (k:Nat) (a:Option Addr) (c:Nat) (t:TlbM) (w:World) (hc:CurN w p f k) (ht:TlbN w p a c t) (hl:1≤t.es.length∧t.es.length≤32) (hw:0≤t.ways∧t.ways≤1000):
 Calls Tryz.prog 34 #[.pointer (some ⟨p,0,none⟩),.agg #[.int .i64 t.sets,.int .i64 t.ways,.slice a t.es.length c]] w fun e w'=>∃a' c' t' k',e=.returned (.agg #[.int .i64 t'.sets,.int .i64 t'.ways,.slice a' t'.es.length c'])∧(TlbN w' p a' c' t'∧∀q,a'=some q→w.heap.size≤q.block)∧t'.es.length=t.es.length∧DrewN w p f k' w':=by
 have hp:=hc.lt;have HOK:Hid (ex t):=ht.t.ok;have CC:Hid (∀u,Below w.heap.size w u→Calls Tryz.prog 76 #[.agg #[.int .i64 t.sets,.int .i64 t.ways,.slice a t.es.length c]] u fun e w'=>(∃x,e=.returned x∧TlbOwn u.heap.size w' x t)∧Below u.heap.size u w'):=fun u hu=>gx _ t u (ht.t.keep hu);clear ht;obtain ⟨sets,ways,es⟩:=t;simp only at hl hw CC ⊢;obtain ⟨n,hn⟩:∃n,es.length=n:=⟨_,rfl⟩;have HN:Hid _:=hn;rw [hn] at hl CC ⊢;clear hn;go_enter Tryz.func34,Tryz.ntmps34;go_upto_region 1 with fail;have F:=eU w #[.int .i64 sets,.int .i64 ways,.slice a n c] #[.int .i64 0,.int .i64 0,.slice none 0 0] 28 28;generalize (w.alloc (Obj.cells #[.int .i64 sets,.int .i64 ways,.slice a n c] 28)).alloc (Obj.cells #[.int .i64 0,.int .i64 0,.slice none 0 0] 28)=v1 at F ⊢;obtain ⟨h3,h4,l1,n1⟩:=F;have J3:Hid _:=aB (P:=Tryz.prog) (T:=28) h3 Tryz.underlying28 rfl df;go_wp2_with (first | ((with_reducible refine az ?_ J3.out ?_);(exact rfl)));refine (CC.out v1 n1).mono ?_;rintro e v2 ⟨⟨_,rfl,g,cp,rfl,row⟩,n2⟩;simp only at row ⊢;rw [HN.out] at row ⊢;obtain ⟨v3,hs3,P3,l3,n3⟩:=dI v2 #[.int .i64 0,.int .i64 0,.slice none 0 0] #[.int .i64 sets,.int .i64 ways,.slice (some ⟨g,0,none⟩) n cp] 28 df rfl (eI _ _ _ _ _);have HS3:Hid _:=hs3;have s2:=n2.size;have lg:=(bI row).2;have H3:Hid _:=ab (ab h3 n2 (by omega)) n3 (by omega);have H4:Hid _:=ab (ab h4 n2 (by omega)) n3 (by omega);have H5:Hid _:=P3;have HR:Hid _:=aj row n3;have d3:=(DrewN.refl hc).below (Below.step (Below.step n1 n2 (Nat.le_refl _)) n3 (Nat.le_refl _)) hp;clear h3 h4 J3 P3 n3 n2 hs3 row CC;go_upto_region 2 with (first | ((with_reducible refine au ?_ ?_ HS3.out ?_);(exact rfl);(exact rfl)));clear HS3;go_wp2_with fail;refine (aX p f k 7 _ d3.1 (by omega) (by omega)).mono ?_;rintro e v4 ⟨kx,k4, -,hkx,rfl,d4⟩;replace H3:Hid _:=av H3.out d4.2 (by omega);replace H4:Hid _:=av H4.out d4.2 (by omega);replace H5:Hid _:=av H5.out d4.2 (by omega);replace HR:Hid _:=bZ HR.out d4.2 (by omega);replace d3:=d3.trans d4;have s4:=d4.2.size;clear d4;have c2:=ag H3.out 2 (v:=.slice a n c) rfl;go_wp2_with fail;refine (aX p f k4 n _ d3.1 (by omega) (by omega)).mono ?_;rintro e v5 ⟨y,k5, -,hy,rfl,d5⟩;replace H4:Hid _:=av H4.out d5.2 (by omega);replace H5:Hid _:=av H5.out d5.2 (by omega);replace HR:Hid _:=bZ HR.out d5.2 (by omega);replace d3:=d3.trans d5;have s5:=d5.2.size;clear d5 c2 H3;obtain ⟨iy,rfl⟩:∃iy:Nat,y=iy:=⟨y.toNat,by omega⟩;have hiy:iy<n:=by omega
 go_upto_region 4 with fail;obtain ⟨x,hx⟩:∃x,es[iy]?=some x:=⟨_,List.getElem?_eq_getElem (by rw [HN.out];omega)⟩;have okx:dq x:=HOK.out.1 x (List.mem_of_getElem? hx);have CE:∀j u,j<6→(jn x)[j]?=some u→v5.cell? ⟨g,iy*6+j,none⟩=some u:=fun j u hj hu=>by
  have h1:(aL es)[iy*6+j]?=some u:=by
   rw [oO es iy j (by rw [HN.out];omega) hj];rw [List.getElem?_eq_getElem (by rw [HN.out];omega)] at hx;rw [Option.some.inj hx];exact hu
  have:=aI HR.out (iy*6+j) _ h1;simpa using this
 have g0:v5.cell? ⟨g,iy*6,none⟩=some (.bool x.valid):=CE 0 _ (by omega) rfl;have g1:v5.cell? ⟨g,iy*6+1,none⟩=some (.int .i64 x.level):=CE 1 _ (by omega) rfl;have g2:v5.cell? ⟨g,iy*6+2,none⟩=some (.int .u64 x.tag):=CE 2 _ (by omega) rfl;have g3:v5.cell? ⟨g,iy*6+3,none⟩=some (.int .u64 x.asid):=CE 3 _ (by omega) rfl;have g4:v5.cell? ⟨g,iy*6+4,none⟩=some (.bool x.glob):=CE 4 _ (by omega) rfl;have g5:v5.cell? ⟨g,iy*6+5,none⟩=some (.int .u64 x.pte):=CE 5 _ (by omega) rfl;have c52:=ag H5.out 2 (v:=.slice (some ⟨g,0,none⟩) n cp) rfl;obtain ⟨v6,hs6,P6,l6,n6⟩:=dI v5 #[.bool false,.int .i64 0,.int .u64 0,.int .u64 0,.bool false,.int .u64 0] (gM x) 62 mV rfl (ke _ _ _ _ _ _);have HS6:Hid _:=hs6;have lg5:g<v5.heap.size:=(bI HR.out).2.2;have l25:v2.heap.size<v5.heap.size:=(Array.getElem?_eq_some_iff.1 H5.out).1;have S:SpS w p f k5 v6 (w.heap.size+1) v2.heap.size v5.heap.size g n cp sets ways es x:=⟨d3.below (n6.mono d3.2.size) hp,ab H4.out n6 (by omega),ab H5.out n6 l25,P6,aT (aj HR.out n6) (by omega),by omega,by omega,by omega,by omega,by omega,by omega,by omega⟩;clear hs6 P6 n6 CE;go_upto_region 5 with (first | ((with_reducible refine au ?_ ?_ HS6.out ?_);(exact rfl);(exact rfl)));clear HS6 g0 g1 g2 g3 g4 g5 c52 d3 HR H4 H5 hx;generalize v5.heap.size=b8 at S ⊢;generalize v2.heap.size=b5 at S ⊢;generalize w.heap.size+1=b4 at S ⊢;clear lg5 l25 lg l3 s2 s4 s5 l1 n1 l6;simp only [Act.put];have bw: -9223372036854775808≤ways∧ways≤9223372036854775807:=by omega
 go_upto_if 24 with fail;go_cut [] from 25 to 28 (fun wx=>∃ways' x',(-9223372036854775808≤ways'∧ways'≤9223372036854775807)∧dq x'∧SpS w p f k5 wx b4 b5 b8 g n cp sets ways' es x')
 case first=>
  have q8:=(Array.getElem?_eq_some_iff.1 S.h8).1;have q5:=(Array.getElem?_eq_some_iff.1 S.h5).1;have e0:=ag S.h8 0 (v:=.bool x.valid) rfl;have e1:=ag S.h8 1 (v:=.int .i64 x.level) rfl;have e2:=ag S.h8 2 (v:=.int .u64 x.tag) rfl;have e3:=ag S.h8 3 (v:=.int .u64 x.asid) rfl;have e5:=ag S.h8 5 (v:=.int .u64 x.pte) rfl;have r0:=aA S.h8 0;have r1:=aA S.h8 1;have r2:=aA S.h8 2;have r3:=aA S.h8 3;have r5:=aA S.h8 5;have t1:=ag S.h5 1 (v:=.int .i64 ways) rfl;have u1:=aA S.h5 1;obtain ⟨o1,o2,o3,o4⟩:=okx;have HS:Hid _:=S;clear S;by_cases hk:¬(kx=0)
  ·have hk':(kx == 0)=false:=by simpa using hk
   go_wp2_with fail;go_meet
   case rel=>exact ⟨ways,x,bw,⟨o1,o2,o3,o4⟩,HS.out⟩
  ·obtain rfl:kx=0:=by omega
   go_wp2_with fail;go_meet
   case rel=>exact ⟨_,x,by first | exact aR _ | exact a6 _ _ _ | omega | (dsimp only;omega) | (dsimp only;unfold wrap64;omega),⟨o1,o2,o3,o4⟩,HS.out.put5 hp 1 _ rfl⟩
 case rest=>
 clear S okx bw hw;obtain ⟨ways,x,bw,okx,S⟩:=hcut;rename World=>wc0;go_upto_if 30 with fail;go_cut [] from 31 to 34 (fun wx=>∃ways' x',(-9223372036854775808≤ways'∧ways'≤9223372036854775807)∧dq x'∧SpS w p f k5 wx b4 b5 b8 g n cp sets ways' es x')
 case first=>
  have q8:=(Array.getElem?_eq_some_iff.1 S.h8).1;have q5:=(Array.getElem?_eq_some_iff.1 S.h5).1;have e0:=ag S.h8 0 (v:=.bool x.valid) rfl;have e1:=ag S.h8 1 (v:=.int .i64 x.level) rfl;have e2:=ag S.h8 2 (v:=.int .u64 x.tag) rfl;have e3:=ag S.h8 3 (v:=.int .u64 x.asid) rfl;have e5:=ag S.h8 5 (v:=.int .u64 x.pte) rfl;have r0:=aA S.h8 0;have r1:=aA S.h8 1;have r2:=aA S.h8 2;have r3:=aA S.h8 3;have r5:=aA S.h8 5;have t1:=ag S.h5 1 (v:=.int .i64 ways) rfl;have u1:=aA S.h5 1;obtain ⟨o1,o2,o3,o4⟩:=okx;have HS:Hid _:=S;clear S;by_cases hk:¬(kx=1)
  ·have hk':(kx == 1)=false:=by simpa using hk
   go_wp2_with fail;go_meet
   case rel=>exact ⟨ways,x,bw,⟨o1,o2,o3,o4⟩,HS.out⟩
  ·obtain rfl:kx=1:=by omega
   go_wp2_with fail;go_meet
   case rel=>exact ⟨ways,⟨x.valid,x.level,IntKind.u64.wrap (x.tag+1),x.asid,x.glob,x.pte⟩,by first | exact aR _ | exact a6 _ _ _ | omega | (dsimp only;omega) | (dsimp only;unfold wrap64;omega),⟨by first | exact aR _ | exact a6 _ _ _ | omega | (dsimp only;omega) | (dsimp only;unfold wrap64;omega),by first | exact aR _ | exact a6 _ _ _ | omega | (dsimp only;omega) | (dsimp only;unfold wrap64;omega),by first | exact aR _ | exact a6 _ _ _ | omega | (dsimp only;omega) | (dsimp only;unfold wrap64;omega),by first | exact aR _ | exact a6 _ _ _ | omega | (dsimp only;omega) | (dsimp only;unfold wrap64;omega)⟩,HS.out.put8 hp 2 _ rfl⟩
 case rest=>
 clear S okx bw;obtain ⟨ways,x,bw,okx,S⟩:=hcut;rename World=>wc1;go_upto_if 36 with fail;go_cut [] from 37 to 40 (fun wx=>∃ways' x',(-9223372036854775808≤ways'∧ways'≤9223372036854775807)∧dq x'∧SpS w p f k5 wx b4 b5 b8 g n cp sets ways' es x')
 case first=>
  have q8:=(Array.getElem?_eq_some_iff.1 S.h8).1;have q5:=(Array.getElem?_eq_some_iff.1 S.h5).1;have e0:=ag S.h8 0 (v:=.bool x.valid) rfl;have e1:=ag S.h8 1 (v:=.int .i64 x.level) rfl;have e2:=ag S.h8 2 (v:=.int .u64 x.tag) rfl;have e3:=ag S.h8 3 (v:=.int .u64 x.asid) rfl;have e5:=ag S.h8 5 (v:=.int .u64 x.pte) rfl;have r0:=aA S.h8 0;have r1:=aA S.h8 1;have r2:=aA S.h8 2;have r3:=aA S.h8 3;have r5:=aA S.h8 5;have t1:=ag S.h5 1 (v:=.int .i64 ways) rfl;have u1:=aA S.h5 1;obtain ⟨o1,o2,o3,o4⟩:=okx;have HS:Hid _:=S;clear S;by_cases hk:¬(kx=2)
  ·have hk':(kx == 2)=false:=by simpa using hk
   go_wp2_with fail;go_meet
   case rel=>exact ⟨ways,x,bw,⟨o1,o2,o3,o4⟩,HS.out⟩
  ·obtain rfl:kx=2:=by omega
   go_wp2_with fail;go_meet
   case rel=>exact ⟨ways,⟨x.valid,x.level,x.tag,x.asid,x.glob,bits BinOp.xor IntKind.u64 x.pte 32⟩,by first | exact aR _ | exact a6 _ _ _ | omega | (dsimp only;omega) | (dsimp only;unfold wrap64;omega),⟨by first | exact aR _ | exact a6 _ _ _ | omega | (dsimp only;omega) | (dsimp only;unfold wrap64;omega),by first | exact aR _ | exact a6 _ _ _ | omega | (dsimp only;omega) | (dsimp only;unfold wrap64;omega),by first | exact aR _ | exact a6 _ _ _ | omega | (dsimp only;omega) | (dsimp only;unfold wrap64;omega),by first | exact aR _ | exact a6 _ _ _ | omega | (dsimp only;omega) | (dsimp only;unfold wrap64;omega)⟩,HS.out.put8 hp 5 _ rfl⟩
 case rest=>
 clear S okx bw;obtain ⟨ways,x,bw,okx,S⟩:=hcut;rename World=>wc2;go_upto_if 42 with fail;go_cut [] from 43 to 43 (fun wx=>∃ways' x',(-9223372036854775808≤ways'∧ways'≤9223372036854775807)∧dq x'∧SpS w p f k5 wx b4 b5 b8 g n cp sets ways' es x')
 case first=>
  have q8:=(Array.getElem?_eq_some_iff.1 S.h8).1;have q5:=(Array.getElem?_eq_some_iff.1 S.h5).1;have e0:=ag S.h8 0 (v:=.bool x.valid) rfl;have e1:=ag S.h8 1 (v:=.int .i64 x.level) rfl;have e2:=ag S.h8 2 (v:=.int .u64 x.tag) rfl;have e3:=ag S.h8 3 (v:=.int .u64 x.asid) rfl;have e5:=ag S.h8 5 (v:=.int .u64 x.pte) rfl;have r0:=aA S.h8 0;have r1:=aA S.h8 1;have r2:=aA S.h8 2;have r3:=aA S.h8 3;have r5:=aA S.h8 5;have t1:=ag S.h5 1 (v:=.int .i64 ways) rfl;have u1:=aA S.h5 1;obtain ⟨o1,o2,o3,o4⟩:=okx;have HS:Hid _:=S;clear S;by_cases hk:¬(kx=3)
  ·have hk':(kx == 3)=false:=by simpa using hk
   go_wp2_with fail;go_meet
   case rel=>exact ⟨ways,x,bw,⟨o1,o2,o3,o4⟩,HS.out⟩
  ·obtain rfl:kx=3:=by omega
   go_wp2_with fail;go_meet
   case rel=>exact ⟨ways,⟨x.valid,x.level,x.tag,65536,x.glob,x.pte⟩,by first | exact aR _ | exact a6 _ _ _ | omega | (dsimp only;omega) | (dsimp only;unfold wrap64;omega),⟨by first | exact aR _ | exact a6 _ _ _ | omega | (dsimp only;omega) | (dsimp only;unfold wrap64;omega),by first | exact aR _ | exact a6 _ _ _ | omega | (dsimp only;omega) | (dsimp only;unfold wrap64;omega),by first | exact aR _ | exact a6 _ _ _ | omega | (dsimp only;omega) | (dsimp only;unfold wrap64;omega),by first | exact aR _ | exact a6 _ _ _ | omega | (dsimp only;omega) | (dsimp only;unfold wrap64;omega)⟩,HS.out.put8 hp 3 _ rfl⟩
 case rest=>
 clear S okx bw;obtain ⟨ways,x,bw,okx,S⟩:=hcut;rename World=>wc3;go_upto_if 45 with fail;go_cut [] from 46 to 49 (fun wx=>∃ways' x',(-9223372036854775808≤ways'∧ways'≤9223372036854775807)∧dq x'∧SpS w p f k5 wx b4 b5 b8 g n cp sets ways' es x')
 case first=>
  have q8:=(Array.getElem?_eq_some_iff.1 S.h8).1;have q5:=(Array.getElem?_eq_some_iff.1 S.h5).1;have e0:=ag S.h8 0 (v:=.bool x.valid) rfl;have e1:=ag S.h8 1 (v:=.int .i64 x.level) rfl;have e2:=ag S.h8 2 (v:=.int .u64 x.tag) rfl;have e3:=ag S.h8 3 (v:=.int .u64 x.asid) rfl;have e5:=ag S.h8 5 (v:=.int .u64 x.pte) rfl;have r0:=aA S.h8 0;have r1:=aA S.h8 1;have r2:=aA S.h8 2;have r3:=aA S.h8 3;have r5:=aA S.h8 5;have t1:=ag S.h5 1 (v:=.int .i64 ways) rfl;have u1:=aA S.h5 1;obtain ⟨o1,o2,o3,o4⟩:=okx;have HS:Hid _:=S;clear S;by_cases hk:¬(kx=4)
  ·have hk':(kx == 4)=false:=by simpa using hk
   go_wp2_with fail;go_meet
   case rel=>exact ⟨ways,x,bw,⟨o1,o2,o3,o4⟩,HS.out⟩
  ·obtain rfl:kx=4:=by omega
   go_wp2_with fail;go_meet
   case rel=>exact ⟨ways,⟨x.valid,wrap64 (x.level+1),x.tag,x.asid,x.glob,x.pte⟩,by first | exact aR _ | exact a6 _ _ _ | omega | (dsimp only;omega) | (dsimp only;unfold wrap64;omega),⟨by first | exact aR _ | exact a6 _ _ _ | omega | (dsimp only;omega) | (dsimp only;unfold wrap64;omega),by first | exact aR _ | exact a6 _ _ _ | omega | (dsimp only;omega) | (dsimp only;unfold wrap64;omega),by first | exact aR _ | exact a6 _ _ _ | omega | (dsimp only;omega) | (dsimp only;unfold wrap64;omega),by first | exact aR _ | exact a6 _ _ _ | omega | (dsimp only;omega) | (dsimp only;unfold wrap64;omega)⟩,HS.out.put8 hp 1 _ rfl⟩
 case rest=>
 clear S okx bw;obtain ⟨ways,x,bw,okx,S⟩:=hcut;rename World=>wc4;go_upto_if 51 with fail;go_cut [] from 52 to 55 (fun wx=>∃ways' x',(-9223372036854775808≤ways'∧ways'≤9223372036854775807)∧dq x'∧SpS w p f k5 wx b4 b5 b8 g n cp sets ways' es x')
 case first=>
  have q8:=(Array.getElem?_eq_some_iff.1 S.h8).1;have q5:=(Array.getElem?_eq_some_iff.1 S.h5).1;have e0:=ag S.h8 0 (v:=.bool x.valid) rfl;have e1:=ag S.h8 1 (v:=.int .i64 x.level) rfl;have e2:=ag S.h8 2 (v:=.int .u64 x.tag) rfl;have e3:=ag S.h8 3 (v:=.int .u64 x.asid) rfl;have e5:=ag S.h8 5 (v:=.int .u64 x.pte) rfl;have r0:=aA S.h8 0;have r1:=aA S.h8 1;have r2:=aA S.h8 2;have r3:=aA S.h8 3;have r5:=aA S.h8 5;have t1:=ag S.h5 1 (v:=.int .i64 ways) rfl;have u1:=aA S.h5 1;obtain ⟨o1,o2,o3,o4⟩:=okx;have HS:Hid _:=S;clear S;by_cases hk:¬(kx=5)
  ·have hk':(kx == 5)=false:=by simpa using hk
   go_wp2_with fail;go_meet
   case rel=>exact ⟨ways,x,bw,⟨o1,o2,o3,o4⟩,HS.out⟩
  ·obtain rfl:kx=5:=by omega
   go_wp2_with fail;go_meet
   case rel=>exact ⟨ways,⟨!x.valid,x.level,x.tag,x.asid,x.glob,x.pte⟩,by first | exact aR _ | exact a6 _ _ _ | omega | (dsimp only;omega) | (dsimp only;unfold wrap64;omega),⟨by first | exact aR _ | exact a6 _ _ _ | omega | (dsimp only;omega) | (dsimp only;unfold wrap64;omega),by first | exact aR _ | exact a6 _ _ _ | omega | (dsimp only;omega) | (dsimp only;unfold wrap64;omega),by first | exact aR _ | exact a6 _ _ _ | omega | (dsimp only;omega) | (dsimp only;unfold wrap64;omega),by first | exact aR _ | exact a6 _ _ _ | omega | (dsimp only;omega) | (dsimp only;unfold wrap64;omega)⟩,HS.out.put8 hp 0 _ rfl⟩
 case rest=>
 clear S okx bw;obtain ⟨ways,x,bw,okx,S⟩:=hcut;rename World=>wc5;go_upto_if 57 with fail;go_cut [] from 58 to 61 (fun wx=>∃ways' x',(-9223372036854775808≤ways'∧ways'≤9223372036854775807)∧dq x'∧SpS w p f k5 wx b4 b5 b8 g n cp sets ways' es x')
 case first=>
  have q8:=(Array.getElem?_eq_some_iff.1 S.h8).1;have q5:=(Array.getElem?_eq_some_iff.1 S.h5).1;have e0:=ag S.h8 0 (v:=.bool x.valid) rfl;have e1:=ag S.h8 1 (v:=.int .i64 x.level) rfl;have e2:=ag S.h8 2 (v:=.int .u64 x.tag) rfl;have e3:=ag S.h8 3 (v:=.int .u64 x.asid) rfl;have e5:=ag S.h8 5 (v:=.int .u64 x.pte) rfl;have r0:=aA S.h8 0;have r1:=aA S.h8 1;have r2:=aA S.h8 2;have r3:=aA S.h8 3;have r5:=aA S.h8 5;have t1:=ag S.h5 1 (v:=.int .i64 ways) rfl;have u1:=aA S.h5 1;obtain ⟨o1,o2,o3,o4⟩:=okx;have HS:Hid _:=S;clear S;by_cases hk:¬(kx=6)
  ·have hk':(kx == 6)=false:=by simpa using hk
   go_wp2_with fail;go_meet
   case rel=>exact ⟨ways,x,bw,⟨o1,o2,o3,o4⟩,HS.out⟩
  ·obtain rfl:kx=6:=by omega
   go_wp2_with fail;go_meet
   case rel=>exact ⟨ways,⟨x.valid,x.level,x.tag,x.asid,x.glob,bits BinOp.xor IntKind.u64 x.pte 1⟩,by first | exact aR _ | exact a6 _ _ _ | omega | (dsimp only;omega) | (dsimp only;unfold wrap64;omega),⟨by first | exact aR _ | exact a6 _ _ _ | omega | (dsimp only;omega) | (dsimp only;unfold wrap64;omega),by first | exact aR _ | exact a6 _ _ _ | omega | (dsimp only;omega) | (dsimp only;unfold wrap64;omega),by first | exact aR _ | exact a6 _ _ _ | omega | (dsimp only;omega) | (dsimp only;unfold wrap64;omega),by first | exact aR _ | exact a6 _ _ _ | omega | (dsimp only;omega) | (dsimp only;unfold wrap64;omega)⟩,HS.out.put8 hp 5 _ rfl⟩
 case rest=>
 clear S okx bw;obtain ⟨ways,x,bw,okx,S⟩:=hcut;rename World=>wc6
 focus
  have HO:Hid _:=S.row;have hcl:(aL es).length=n*6:=by rw [eB,HN.out]
  have y0:=aI HO.out (iy*6) _ (List.getElem?_eq_getElem (by omega));have y1:=aI HO.out (iy*6+1) _ (List.getElem?_eq_getElem (by omega));have y2:=aI HO.out (iy*6+2) _ (List.getElem?_eq_getElem (by omega));have y3:=aI HO.out (iy*6+3) _ (List.getElem?_eq_getElem (by omega));have y4:=aI HO.out (iy*6+4) _ (List.getElem?_eq_getElem (by omega));have y5:=aI HO.out (iy*6+5) _ (List.getElem?_eq_getElem (by omega));generalize (aL es)[iy*6]'_=z0 at y0;generalize (aL es)[iy*6+1]'_=z1 at y1;generalize (aL es)[iy*6+2]'_=z2 at y2;generalize (aL es)[iy*6+3]'_=z3 at y3;generalize (aL es)[iy*6+4]'_=z4 at y4;generalize (aL es)[iy*6+5]'_=z5 at y5;have r0:=aP HO.out (iy*6);have r1:=aP HO.out (iy*6+1);have r2:=aP HO.out (iy*6+2);have r3:=aP HO.out (iy*6+3);have r4:=aP HO.out (iy*6+4);have r5:=aP HO.out (iy*6+5);have lg:=(bI HO.out).2.2;have c52:=ag S.h5 2 (v:=.slice (some ⟨g,0,none⟩) n cp) rfl;have e0:=ag S.h8 0 (v:=.bool x.valid) rfl;have e1:=ag S.h8 1 (v:=.int .i64 x.level) rfl;have e2:=ag S.h8 2 (v:=.int .u64 x.tag) rfl;have e3:=ag S.h8 3 (v:=.int .u64 x.asid) rfl;have e4:=ag S.h8 4 (v:=.bool x.glob) rfl;have e5:=ag S.h8 5 (v:=.int .u64 x.pte) rfl;have HS:Hid _:=S;clear S hcl;go_upto_region 20 with fail;have gS:=ax (ax (ax (ax (ax (ax (aE wc6 (some g)) (iy*6) (.bool x.valid)) (iy*6+1) (.int .i64 x.level)) (iy*6+2) (.int .u64 x.tag)) (iy*6+3) (.int .u64 x.asid)) (iy*6+4) (.bool x.glob)) (iy*6+5) (.int .u64 x.pte);have oN:=aJ (aJ (aJ (aJ (aJ (aJ HO.out (iy*6) (.bool x.valid)) (iy*6+1) (.int .i64 x.level)) (iy*6+2) (.int .u64 x.tag)) (iy*6+3) (.int .u64 x.asid)) (iy*6+4) (.bool x.glob)) (iy*6+5) (.int .u64 x.pte);rw [←io es iy x (by rw [HN.out];omega)] at oN;have hgb:w.heap.size≤g:=(bI HO.out).2.1;have ng5:g≠b5:=fun h=>by subst h;exact nX HO.out HS.out.h5 (by decide) rfl
  have ng4:g≠b4:=fun h=>by subst h;exact nX HO.out HS.out.h4 (by decide) rfl
  have k4:=av HS.out.h4 gS (Ne.symm ng4);have k5':=av HS.out.h5 gS (Ne.symm ng5);have dN:=HS.out.d.own gS hgb hp;generalize (((((wc6.setCell ⟨g,iy*6,none⟩ (.bool x.valid)).setCell ⟨g,iy*6+1,none⟩ (.int .i64 x.level)).setCell ⟨g,iy*6+2,none⟩ (.int .u64 x.tag)).setCell ⟨g,iy*6+3,none⟩ (.int .u64 x.asid)).setCell ⟨g,iy*6+4,none⟩ (.bool x.glob)).setCell ⟨g,iy*6+5,none⟩ (.int .u64 x.pte)=vN at *;have J5:Hid _:=aB (P:=Tryz.prog) (T:=28) k5' Tryz.underlying28 rfl df;obtain ⟨vE,hsE,hE,gE, -⟩:=cC k4 #[.int .i64 sets,.int .i64 ways,.slice (some ⟨g,0,none⟩) n cp] df rfl (eI _ _ _ _ _);have HSE:Hid _:=hsE;have dE:=dN.own gE HS.out.l4 hp;have oE:=bT oN k4 (by decide) gE;have tOk:ex ⟨sets,ways,es.set iy x⟩:=⟨fun e he=>by
   rcases List.mem_or_eq_of_mem_set he with h | h
   ·exact HOK.out.1 e h
   ·rw [h];exact okx,HOK.out.2.1,bw,by simp only [List.length_set];rw [HN.out];omega⟩
  have LN:(es.set iy x).length=n:=by rw [List.length_set,HN.out]
  have oE':vE.ownsRow w.heap.size 62 6 (.slice (some ⟨g,0,none⟩) (es.set iy x).length cp) (es.set iy x).length (aL (es.set iy x)):=by rw [LN];exact oE
  have tN:TlbN vE p (some ⟨g,0,none⟩) cp ⟨sets,ways,es.set iy x⟩:=⟨cw oE' tOk,uf oE' hp⟩;have HTN:Hid _:=tN;clear y0 y1 y2 y3 y4 y5 r0 r1 r2 r3 r4 r5 e0 e1 e2 e3 e4 e5 c52 oN oE oE' tN HS HO;go_wp2_with (first | ((with_reducible refine az ?_ J5.out ?_);(exact rfl)) | ((with_reducible refine au ?_ ?_ HSE.out ?_);(exact rfl);(exact rfl)));refine ec (b:=b4) Tryz.results34 rfl (bj (P:=Tryz.prog) hE Tryz.underlying28 rfl df) rfl ?_;exact ⟨some ⟨g,0,none⟩,cp,⟨sets,ways,es.set iy x⟩,(by show _=Ending.returned (.agg #[.int .i64 sets,.int .i64 ways,.slice (some ⟨g,0,none⟩) (es.set iy x).length cp]);rw [LN]),⟨HTN.out,fun q hq=>by cases hq;exact hgb⟩,LN,k5,dE⟩
end Go.Proofs.YtaoaifmkhbgaiaaGreat

namespace Go.Proofs.YtaoaifmkhbgaiaaGreat
open Go.RowKit
set_option linter.unusedVariables false
structure NvS (w:World) (p:Nat) (f:Nat→Int) (k:Nat) (wr:World) (b3 b8 b off c n:Nat) (sets ways:Int) (es:List EntM) (x:EntM):Prop where
 d:DrewN w p f k wr
 h3:wr.heap[b3]?=some (.cells #[.int .i64 sets,.int .i64 ways,.slice (some ⟨b,off,none⟩) n c] 28 (0,0))
 h8:wr.heap[b8]?=some (.cells (gM x) 62 (0,0))
 row:RowC wr (some ⟨b,off,none⟩) n 6 (aL es)
 l3:w.heap.size≤b3
 l8:w.heap.size≤b8
 n38:b3≠b8
 nb8:b≠b8
 nbp:b≠p
theorem NvS.draw {w wr v:World} {p:Nat} {f:Nat→Int} {k k' b3 b8 b off c n:Nat} {sets ways:Int} {es:List EntM} {x:EntM} (s:NvS w p f k wr b3 b8 b off c n sets ways es x) (hp:p<w.heap.size) (d:DrewN wr p f k' v):NvS w p f k' v b3 b8 b off c n sets ways es x:=
 ⟨s.d.trans d,av s.h3 d.2 (by have:=s.l3;omega),av s.h8 d.2 (by have:=s.l8;omega),s.row.gb d.2 s.nbp,s.l3,s.l8,s.n38,s.nb8,s.nbp⟩
theorem NvS.take {w wr:World} {p:Nat} {f:Nat→Int} {k b3 b8 b off c n:Nat} {sets ways:Int} {es:List EntM} {x:EntM} (s:NvS w p f k wr b3 b8 b off c n sets ways es x) (hp:p<w.heap.size) (x':EntM):
 ∃v,(Instr.storeAt 62 (.pointer (some ⟨b8,0,none⟩)) (.agg (gM x'))).run Tryz.prog wr=.ok () v∧NvS w p f k v b3 b8 b off c n sets ways es x':=by
 obtain ⟨vE,hsE,hE,gE, -⟩:=cC s.h8 (gM x') mV rfl (ke _ _ _ _ _ _);exact ⟨vE,hsE,s.d.own gE s.l8 hp,av s.h3 gE s.n38,hE,s.row.gb gE s.nb8,s.l3,s.l8,s.n38,s.nb8,s.nbp⟩
theorem NvS.low {w wr:World} {p:Nat} {f:Nat→Int} {k b3 b8 b off c n:Nat} {sets ways:Int} {es:List EntM} {x:EntM} (s:NvS w p f k wr b3 b8 b off c n sets ways es x):b8<wr.heap.size∧wr.cell? ⟨b8,0,none⟩=some (.bool x.valid)∧wr.cell? ⟨b8,1,none⟩=some (.int .i64 x.level)∧wr.cell? ⟨b8,2,none⟩=some (.int .u64 x.tag)∧wr.cell? ⟨b3,2,none⟩=some (.slice (some ⟨b,off,none⟩) n c):=
 ⟨(Array.getElem?_eq_some_iff.1 s.h8).1,ag s.h8 0 rfl,ag s.h8 1 rfl,ag s.h8 2 rfl,ag s.h3 2 rfl⟩
theorem xf {wr:World} {b off n:Nat} {es:List EntM} {x:EntM} {iy:Nat} (row:RowC wr (some ⟨b,off,none⟩) n 6 (aL es)) (hn:es.length=n) (hx:es[iy]?=some x):
 wr.cell? ⟨b,off+iy*6,none⟩=some (.bool x.valid)∧wr.cell? ⟨b,off+iy*6+1,none⟩=some (.int .i64 x.level)∧wr.cell? ⟨b,off+iy*6+2,none⟩=some (.int .u64 x.tag)∧wr.cell? ⟨b,off+iy*6+3,none⟩=some (.int .u64 x.asid)∧wr.cell? ⟨b,off+iy*6+4,none⟩=some (.bool x.glob)∧wr.cell? ⟨b,off+iy*6+5,none⟩=some (.int .u64 x.pte):=
 ⟨dG row hn iy x hx 0 _ (by omega) rfl,dG row hn iy x hx 1 _ (by omega) rfl,dG row hn iy x hx 2 _ (by omega) rfl,dG row hn iy x hx 3 _ (by omega) rfl,dG row hn iy x hx 4 _ (by omega) rfl,dG row hn iy x hx 5 _ (by omega) rfl⟩
set_option maxRecDepth 20000 in
set_option maxHeartbeats 6400000 in
theorem rX (p:Nat) (f:Nat→Int) (k:Nat) (a:Option Addr) (c:Nat) (t:TlbM) (w:World) (hc:CurN w p f k) (ht:TlbN w p a c t) (hl:1≤t.es.length∧t.es.length≤32):
 Calls Tryz.prog 36 #[.pointer (some ⟨p,0,none⟩),.agg #[.int .i64 t.sets,.int .i64 t.ways,.slice a t.es.length c]] w fun e w'=>∃va k',e=.returned (.int .u64 va)∧(0≤va∧va≤18446744073709551615)∧DrewN w p f k' w':=by
 have hp:=hc.lt;obtain ⟨sets,ways,es⟩:=t;have HOK:Hid (∀e∈es,dq e):=ht.t.ok.1;obtain ⟨n,hn⟩:∃n,es.length=n:=⟨_,rfl⟩;have HN:Hid _:=hn;simp only at ht hl ⊢;have hrw:=ht.n;have row:RowC w a es.length 6 (aL es):=by
  obtain ⟨a',c',he,hr,_⟩:=ht.t;simp only [Value.agg.injEq,Array.mk.injEq,List.cons.injEq,Value.slice.injEq,and_true,true_and] at he;obtain ⟨rfl,_⟩:=he;exact hr
 clear ht;rw [hn] at hl row ⊢;clear hn;obtain ⟨b,off,rfl,hbw⟩:∃b off,a=some ⟨b,off,none⟩∧b<w.heap.size:=by
  rcases row.2 with h | ⟨b,off,h,h2,_⟩
  ·omega
  ·exact ⟨b,off,h,h2⟩
 have hbp:b≠p:=(hrw _ rfl).1;clear hrw;go_enter Tryz.func36,Tryz.ntmps36;go_upto_region 1 with fail;have F:=di w #[.int .i64 sets,.int .i64 ways,.slice (some ⟨b,off,none⟩) n c] 28;generalize w.alloc (Obj.cells #[.int .i64 sets,.int .i64 ways,.slice (some ⟨b,off,none⟩) n c] 28)=v1 at F ⊢;obtain ⟨h3,l1,n1⟩:=F;have d1:=(DrewN.refl hc).below n1 hp;replace row:=row.keep n1;clear n1;go_wp2_with fail;refine (aX p f k 6 _ d1.1 (by omega) (by omega)).mono ?_;rintro e v2 ⟨kx,k2, -,hkx,rfl,d2⟩;replace h3:=av h3 d2.2 (by omega);replace row:=row.gb d2.2 hbp;replace d1:=d1.trans d2;clear d2;have c2:=ag h3 2 (v:=.slice (some ⟨b,off,none⟩) n c) rfl;go_wp2_with fail;refine (aX p f k2 n _ d1.1 (by omega) (by omega)).mono ?_;rintro e v3 ⟨y,k3, -,hy,rfl,d2⟩;replace h3:=av h3 d2.2 (by omega);replace row:=row.gb d2.2 hbp;replace d1:=d1.trans d2;clear d2 c2;obtain ⟨iy,rfl⟩:∃iy:Nat,y=iy:=⟨y.toNat,by omega⟩;have hiy:iy<n:=by omega
 go_wp2_with fail;refine (aX p f k3 64 _ d1.1 (by omega) (by omega)).mono ?_;rintro e v4 ⟨x0,k4, -,hx0,rfl,d2⟩;replace h3:=av h3 d2.2 (by omega);replace row:=row.gb d2.2 hbp;replace d1:=d1.trans d2;clear d2;go_upto_region 4 with fail;obtain ⟨x,hx⟩:∃x,es[iy]?=some x:=⟨_,List.getElem?_eq_getElem (by rw [HN.out];omega)⟩;obtain ⟨g0,g1,g2,g3,g4,g5⟩:=xf row HN.out hx;have c52:=ag h3 2 (v:=.slice (some ⟨b,off,none⟩) n c) rfl;have hw4:=d1.2.size;have l34:w.heap.size<v4.heap.size:=(Array.getElem?_eq_some_iff.1 h3).1;have lb4:b<v4.heap.size:=by omega
 obtain ⟨v6,hs6,P6,l6,n6⟩:=dI v4 #[.bool false,.int .i64 0,.int .u64 0,.int .u64 0,.bool false,.int .u64 0] (gM x) 62 mV rfl (ke _ _ _ _ _ _);have HS6:Hid _:=hs6;have S:NvS w p f k4 v6 w.heap.size v4.heap.size b off c n sets ways es x:=⟨d1.below (n6.mono d1.2.size) hp,ab h3 n6 l34,P6,row.keep n6,by omega,by omega,by omega,by omega,hbp⟩;clear hs6 P6 n6;go_upto_region 5 with (first | ((with_reducible refine au ?_ ?_ HS6.out ?_);(exact rfl);(exact rfl)));clear HS6 g0 g1 g2 g3 g4 g5 c52 d1 h3 row;generalize hb8:v4.heap.size=b8 at S ⊢;generalize hb3:w.heap.size=b3 at S ⊢;simp only [Act.put];go_wp2_with fail;go_loopw [6,9] (fun ii jj wr=>∃(iy j:Nat) (x:EntM),iy<n∧j≤8∧ii=.int .i64 iy∧jj=.int .i64 j∧es[iy]?=some x∧NvS w p f k4 wr b3 b8 b off c n sets ways es x) (fun _ jj _=>8-(intOf jj).toNat)
 case atStart=>exact ⟨iy,0,x,hiy,by omega,rfl,rfl,hx,S⟩
 case round=>
 clear S hx;obtain ⟨iy,j,x,hiy,hj,rfl,rfl,hx,S⟩:=hrel;have HX:Hid _:=hx;have okx:Hid (dq x):=HOK.out x (List.mem_of_getElem? hx);clear hx;obtain ⟨q8,e0,e1,e2,c32⟩:=S.low;go_upto_region 6 with fail;go_cut [31] from 25 to 30 (fun s31 wx=>∃bb:Bool,s31=.bool bb∧(bb=true→j<8)∧wx=wr)
 case first=>
  by_cases hj8:j<8
  ·have hj':decide ((j:Int)<8)=true:=by simp;omega
   go_wp2_with fail;go_meet
   case rel=>exact ⟨_,rfl,fun _=>hj8,rfl⟩
  ·have hj':decide ((j:Int)<8)=false:=by simp;omega
   go_wp2_with fail;go_meet
   case rel=>exact ⟨_,rfl,(fun h=>by cases h),rfl⟩
 case rest=>
 obtain ⟨bb,rfl,hbb,rfl⟩:=hcut;cases bb
 ·as_aux_lemma=>
   clear hbb;go_upto_region 10 with fail;go_cut [60] from 45 to 59 (fun s60 wx=>∃bb:Bool,s60=.bool bb∧(bb=true→0≤x.level∧x.level≤2)∧NvS w p f k4 wx b3 b8 b off c n sets ways es x)
   case first=>
    by_cases hk5:kx<5
    ·have hk':decide (kx<5)=true:=by simpa using hk5
     cases hv:x.valid
     ·rw [hv] at e0;go_wp2_with fail;go_meet
      case rel=>exact ⟨_,rfl,(fun h=>by cases h),S⟩
     ·rw [hv] at e0;by_cases hl0:0≤x.level
      ·have h1:decide (x.level≥0)=true:=by simpa using hl0
       have h1':decide (0≤x.level)=true:=by simpa using hl0
       go_wp2_with fail;go_meet
       case rel=>exact ⟨_,rfl,fun h=>by have:x.level<3:=(by simpa using h);omega,S⟩
      ·have h1:decide (x.level≥0)=false:=by simp;omega
       have h1':decide (0≤x.level)=false:=by simp;omega
       go_wp2_with fail;go_meet
       case rel=>exact ⟨_,rfl,(fun h=>by cases h),S⟩
    ·have hk':decide (kx<5)=false:=by simp;omega
     go_wp2_with fail;go_meet
     case rel=>exact ⟨_,rfl,(fun h=>by cases h),S⟩
   case rest=>
   clear S e0 e1 e2 c32 q8;obtain ⟨bb,rfl,hlv,S⟩:=hcut;cases bb
   ·as_aux_lemma=>
     go_wp2_with fail;refine (wC p f k4 _ S.d.1).mono ?_;rintro e v8 ⟨va,k8, -,bva,rfl,d8⟩;replace S:=S.draw hp d8;go_wp2_with fail;go_ret;exact ⟨_,_,rfl,bva,S.d⟩
   ·as_aux_lemma=>
     have hlv':=hlv rfl;clear hlv;go_wp2_with fail;refine (aX p f k4 8 _ S.d.1 (by omega) (by omega)).mono ?_;rintro e v8 ⟨y,k8, -,hy,rfl,d8⟩;replace S:=S.draw hp d8;clear d8;obtain ⟨q8,e0,e1,e2,c32⟩:=S.low;go_upto_if 65 with fail;first
      | generalize hbl:decide (0<x.level)=bl
      | generalize hbl:decide (x.level>0)=bl
     clear hbl;go_cut [7] from 66 to 69 (fun s7 wx=>∃x1:Int,s7=.int .i64 x1∧(0≤x1∧x1≤600)∧wx=v8)
     case first=>
      cases bl
      ·go_wp2_with fail;go_meet
       case rel=>exact ⟨_,rfl,by omega,rfl⟩
      ·go_wp2_with fail;go_meet
       case rel=>exact ⟨_,rfl,by omega,rfl⟩
     case rest=>
     obtain ⟨x1,rfl,bx1,rfl⟩:=hcut;rename World=>wz;obtain ⟨pw,hpw⟩:∃pw:Int,(∀u:World,Calls Tryz.prog 50 #[.int .i64 (6+3*x.level)] u fun e w'=>e=.returned (.int .u64 pw)∧w'=u)∧0≤pw∧pw≤4096:=by
      rcases (show x.level=0∨x.level=1∨x.level=2 by omega) with h | h | h <;> rw [h]
      ·exact ⟨64,fun u=>aZ 6 64 u (by omega) (by decide),by omega,by omega⟩
      ·exact ⟨512,fun u=>aZ 9 512 u (by omega) (by decide),by omega,by omega⟩
      ·exact ⟨4096,fun u=>aZ 12 4096 u (by omega) (by decide),by omega,by omega⟩
     have HP:Hid (∀u:Lies wz,Calls Tryz.prog 50 #[.int .i64 (6+3*x.level)] u.w fun e w'=>e=.returned (.int .u64 pw)∧w'=u.w):=fun u=>hpw.1 u.w;have bpw:=hpw.2;have okt:=okx.out.2.1;have dz:=S.d;have f1:=aN e1 q8;have f2:=aN e2 q8;clear hpw S e0 e1 e2 c32 HX HOK okx;have ne:=ej wz;go_upto_region 14 with fail;refine bL (by kernel_rfl) (by kernel_rfl) ?_;repeat (go_big_quiet_step ((go_at_call 50;exact jI _ (HP.out _))))
     refine wpQuiet_nil ?_;rintro _ ⟨u,rfl⟩;go_wp2_with fail;go_ret;exact ⟨_,_,rfl,by first | exact aR _ | omega,dz.below (u.h.mono dz.2.size) hp⟩
 ·as_aux_lemma=>
   have hj8:=hbb rfl;clear hbb;obtain ⟨iy',hiy'⟩:∃z:Nat,((iy:Int)+1)%(n:Int)=z:=⟨(((iy:Int)+1)%n).toNat,(Int.toNat_of_nonneg (Int.emod_nonneg _ (by omega))).symm⟩;have biy':iy'<n:=by
    have:=Int.emod_lt_of_pos ((iy:Int)+1) (show (0:Int)<n by omega);omega
   have hiy2:Int.tmod ((iy:Int)+1) (n:Int)=iy':=by rw [←hiy'];exact Int.tmod_eq_emod_of_nonneg (by omega)
   obtain ⟨x',hx'⟩:∃x,es[iy']?=some x:=⟨_,List.getElem?_eq_getElem (by rw [HN.out];omega)⟩;obtain ⟨g0,g1,g2,g3,g4,g5⟩:=xf S.row HN.out hx';obtain ⟨vE,hsE,S2⟩:=S.take hp x';have HSE:Hid _:=hsE;have HX':Hid _:=hx';have lb:=Nat.lt_of_lt_of_le hbw S.d.2.size;clear S hsE hx' HX okx;go_wp2_with (first | ((with_reducible refine au ?_ ?_ HSE.out ?_);(exact rfl);(exact rfl)));go_roundw
   case rel=>exact ⟨iy',j+1,x',biy',by omega,rfl,by go_num,HX'.out,S2⟩
   case measure=>simp [intOf];omega
end Go.Proofs.YtaoaifmkhbgaiaaGreat

namespace Go.Proofs.YtaoaifmkhbgaiaaGreat
open Go.RowKit
set_option linter.unusedVariables false
set_option maxRecDepth 20000 in
set_option maxHeartbeats 3200000 in
theorem wD (p:Nat) (f:Nat→Int) (k:Nat) (q:PtrM) (h:HartM) (w:World) (hc:CurN w p f k) (hn:HartN w p q h):
 Calls Tryz.prog 35 #[.pointer (some ⟨p,0,none⟩),.agg (aD q h)] w fun e w'=>∃va k',e=.returned (.int .u64 va)∧(0≤va∧va≤18446744073709551615)∧DrewN w p f k' w':=by
 have hp:=hc.lt;have hl:=(pT hn.o.v.ks).2.1;have HT:Hid (TlbN w p q.a2 q.c2 h.k.d):=⟨hn.kn.parts.2.1,hn.kn.n2⟩;have HL:Hid (((aD q h).toList.drop 15).take 3=[.int .i64 h.k.d.sets,.int .i64 h.k.d.ways,.slice q.a2 h.k.d.es.length q.c2]):=by show _=_;rfl
 have hsz:=ez q h;clear hn;generalize aD q h=C at *;generalize h.k.d=t at *;go_enter Tryz.func35,Tryz.ntmps35;go_upto_region 1 with fail;have F:=di w C 48;generalize w.alloc (Obj.cells C 48)=v1 at F ⊢;obtain ⟨h3,l1,n1⟩:=F;have d1:=(DrewN.refl hc).below n1 hp;replace HT:Hid _:=HT.out.keep n1;clear n1;go_wp2_with fail;refine (aX p f k 6 _ d1.1 (by omega) (by omega)).mono ?_;rintro e v2 ⟨kx,k2, -,hkx,rfl,d2⟩;replace h3:=av h3 d2.2 (by omega);replace HT:Hid _:=HT.out.gb d2.2;replace d1:=d1.trans d2;clear d2;go_wp2_with fail;refine (aX p f k2 512 _ d1.1 (by omega) (by omega)).mono ?_;rintro e v3 ⟨x,k3, -,hx,rfl,d2⟩;replace h3:=av h3 d2.2 (by omega);replace HT:Hid _:=HT.out.gb d2.2;replace d1:=d1.trans d2;clear d2;go_wp2_with fail;refine (aX p f k3 1024 _ d1.1 (by omega) (by omega)).mono ?_;rintro e v4 ⟨y,k4, -,hy,rfl,d2⟩;replace h3:=av h3 d2.2 (by omega);replace HT:Hid _:=HT.out.gb d2.2;replace d1:=d1.trans d2;clear d2;by_cases hk2:kx<2
 ·have e1:decide (kx<2)=true:=by simpa using hk2
  go_wp2_with fail;go_ret;exact ⟨_,_,rfl,by omega,d1⟩
 ·have e1:decide (kx<2)=false:=by simp;omega
  rcases (show kx=2∨kx=3∨4≤kx by omega) with rfl | rfl | hk4
  ·go_wp2_with fail;go_ret;exact ⟨_,_,rfl,by omega,d1⟩
  ·go_wp2_with fail;go_ret;exact ⟨_,_,rfl,by omega,d1⟩
  ·have e2:(kx == 2)=false:=by simp;omega
   have e3:(kx == 3)=false:=by simp;omega
   have JT:Hid _:=co (P:=Tryz.prog) (T:=28) h3 Tryz.underlying28 rfl (o:=15) _ df HL.out rfl;go_wp2_with (first | ((with_reducible refine az ?_ JT.out ?_);(exact rfl)));refine (rX p f k4 q.a2 q.c2 t _ d1.1 HT.out hl).mono ?_;rintro e v5 ⟨va,k5,rfl,bva,d5⟩;replace d1:=d1.trans d5;go_wp2_with fail;go_ret;exact ⟨_,_,rfl,bva,d1⟩
end Go.Proofs.YtaoaifmkhbgaiaaGreat
