import Derived.Deep.CutRange
import Derived.Test.YthekickjjaleaaaGreatPack12
import Derived.Test.YthekickjjaleaaaGreatPack14
import Derived.Test.YthekickjjaleaaaGreatPack05
import Derived.Test.YthekickjjaleaaaGreatPack04
import Derived.Test.YthekickjjaleaaaGreatPack03
import Derived.Deep.AppendLies
import Derived.Test.YthekickjjaleaaaGreatPack09
import Derived.Test.YthekickjjaleaaaGreatPack11
namespace Go.Proofs.YthekickjjaleaaaGreat
open Go.RowKit
set_option linter.unusedVariables false
theorem dl:(Tryz.prog.info? 41).map (·.size)=some 3:=by kernel_rfl
theorem mR:(Tryz.prog.info? 83).map (·.size)=some 6:=by kernel_rfl
abbrev fy (e:EntM):Array Value:=#[.bool e.valid,.int .i64 e.level,.int .u64 e.tag,.int .u64 e.asid,.bool e.glob,.int .u64 e.pte]
structure SpS (w:World) (p:Nat) (f:Nat→Int) (k:Nat) (wr:World) (b4 b5 b8 g n cp:Nat) (sets ways:Int) (es:List EntM) (e:EntM):Prop where
 d:DrewN w p f k wr
 h4:wr.heap[b4]?=some (.cells #[.int .i64 0,.int .i64 0,.slice none 0 0] 41 (0,0))
 h5:wr.heap[b5]?=some (.cells #[.int .i64 sets,.int .i64 ways,.slice (some ⟨g,0,none⟩) n cp] 41 (0,0))
 h8:wr.heap[b8]?=some (.cells (fy e) 83 (0,0))
 row:wr.ownsRow w.heap.size 83 6 (.slice (some ⟨g,0,none⟩) n cp) n (aG es)
 l4:w.heap.size≤b4
 l5:w.heap.size≤b5
 l8:w.heap.size≤b8
 n45:b4≠b5
 ng8:g≠b8
 n58:b5≠b8
 n48:b4≠b8
theorem SpS.put5 {w wr:World} {p:Nat} {f:Nat→Int} {k b4 b5 b8 g n cp:Nat} {sets ways sets' ways':Int} {es:List EntM} {e:EntM} (s:SpS w p f k wr b4 b5 b8 g n cp sets ways es e) (hp:p<w.heap.size) (i:Nat) (x:Value) (he:(#[.int .i64 sets,.int .i64 ways,.slice (some ⟨g,0,none⟩) n cp]:Array Value).setIfInBounds i x=#[.int .i64 sets',.int .i64 ways',.slice (some ⟨g,0,none⟩) n cp]):SpS w p f k (wr.setCell ⟨b5,i,none⟩ x) b4 b5 b8 g n cp sets' ways' es e:=
 have gS:=aq (az wr (some b5)) i x
 ⟨s.d.own gS s.l5 hp,cQ s.h4 i x s.n45,by rw [←he];exact cd s.h5 i x,cQ s.h8 i x (Ne.symm s.n58),dn s.row s.h5 (by decide) gS,s.l4,s.l5,s.l8,s.n45,s.ng8,s.n58,s.n48⟩
theorem SpS.put8 {w wr:World} {p:Nat} {f:Nat→Int} {k b4 b5 b8 g n cp:Nat} {sets ways:Int} {es:List EntM} {e e':EntM} (s:SpS w p f k wr b4 b5 b8 g n cp sets ways es e) (hp:p<w.heap.size) (i:Nat) (x:Value) (he:(fy e).setIfInBounds i x=fy e'):SpS w p f k (wr.setCell ⟨b8,i,none⟩ x) b4 b5 b8 g n cp sets ways es e':=
 have gS:=aq (az wr (some b8)) i x
 ⟨s.d.own gS s.l8 hp,cQ s.h4 i x s.n48,cQ s.h5 i x s.n58,by rw [←he];exact cd s.h8 i x,bH s.row gS s.ng8,s.l4,s.l5,s.l8,s.n45,s.ng8,s.n58,s.n48⟩
set_option maxRecDepth 20000 in
set_option maxHeartbeats 6400000 in
theorem iW (p:Nat) (f:Nat→Int) (k:Nat) (a:Option Addr) (c:Nat) (t:TlbM) (w:World) (hc:CurN w p f k) (ht:TlbN w p a c t) (hl:1≤t.es.length∧t.es.length≤32) (hw:0≤t.ways∧t.ways≤1000):
 Calls Tryz.prog 68 #[.pointer (some ⟨p,0,none⟩),.agg #[.int .i64 t.sets,.int .i64 t.ways,.slice a t.es.length c]] w fun e w'=>∃a' c' t' k',e=.returned (.agg #[.int .i64 t'.sets,.int .i64 t'.ways,.slice a' t'.es.length c'])∧(TlbN w' p a' c' t'∧∀q,a'=some q→w.heap.size≤q.block)∧t'.es.length=t.es.length∧DrewN w p f k' w':=by
 have hp:=hc.lt;have HOK:Hid (dA t):=ht.t.ok;have CC:Hid (∀u,Below w.heap.size w u→Calls Tryz.prog 124 #[.agg #[.int .i64 t.sets,.int .i64 t.ways,.slice a t.es.length c]] u fun e w'=>(∃x,e=.returned x∧TlbOwn u.heap.size w' x t)∧Below u.heap.size u w'):=fun u hu=>fe _ t u (ht.t.keep hu);clear ht;obtain ⟨sets,ways,es⟩:=t;simp only at hl hw CC ⊢;obtain ⟨n,hn⟩:∃n,es.length=n:=⟨_,rfl⟩;have HN:Hid _:=hn;rw [hn] at hl CC ⊢;clear hn;go_enter Tryz.func68,Tryz.ntmps68;go_upto_region 1 with fail;have F:=eJ w #[.int .i64 sets,.int .i64 ways,.slice a n c] #[.int .i64 0,.int .i64 0,.slice none 0 0] 41 41;generalize (w.alloc (Obj.cells #[.int .i64 sets,.int .i64 ways,.slice a n c] 41)).alloc (Obj.cells #[.int .i64 0,.int .i64 0,.slice none 0 0] 41)=v1 at F ⊢;obtain ⟨h3,h4,l1,n1⟩:=F;have J3:Hid _:=aH (P:=Tryz.prog) (T:=41) h3 Tryz.underlying41 rfl dl;go_wp2_with (first | ((with_reducible refine aK ?_ J3.out ?_);(exact rfl)));refine (CC.out v1 n1).mono ?_;rintro e v2 ⟨⟨_,rfl,g,cp,rfl,row⟩,n2⟩;simp only at row ⊢;rw [HN.out] at row ⊢;obtain ⟨v3,hs3,P3,l3,n3⟩:=fV v2 #[.int .i64 0,.int .i64 0,.slice none 0 0] #[.int .i64 sets,.int .i64 ways,.slice (some ⟨g,0,none⟩) n cp] 41 dl rfl (eP _ _ _ _ _);have HS3:Hid _:=hs3;have s2:=n2.size;have lg:=(bV row).2;have H3:Hid _:=ab (ab h3 n2 (by omega)) n3 (by omega);have H4:Hid _:=ab (ab h4 n2 (by omega)) n3 (by omega);have H5:Hid _:=P3;have HR:Hid _:=ak row n3;have d3:=(DrewN.refl hc).below (Below.step (Below.step n1 n2 (Nat.le_refl _)) n3 (Nat.le_refl _)) hp;clear h3 h4 J3 P3 n3 n2 hs3 row CC;go_upto_region 2 with (first | ((with_reducible refine av ?_ ?_ HS3.out ?_);(exact rfl);(exact rfl)));clear HS3;go_wp2_with fail;refine (bD p f k 7 _ d3.1 (by omega) (by omega)).mono ?_;rintro e v4 ⟨kx,k4, -,hkx,rfl,d4⟩;replace H3:Hid _:=aw H3.out d4.2 (by omega);replace H4:Hid _:=aw H4.out d4.2 (by omega);replace H5:Hid _:=aw H5.out d4.2 (by omega);replace HR:Hid _:=cK HR.out d4.2 (by omega);replace d3:=d3.trans d4;have s4:=d4.2.size;clear d4;have c2:=ag H3.out 2 (v:=.slice a n c) rfl;go_wp2_with fail;refine (bD p f k4 n _ d3.1 (by omega) (by omega)).mono ?_;rintro e v5 ⟨y,k5, -,hy,rfl,d5⟩;replace H4:Hid _:=aw H4.out d5.2 (by omega);replace H5:Hid _:=aw H5.out d5.2 (by omega);replace HR:Hid _:=cK HR.out d5.2 (by omega);replace d3:=d3.trans d5;have s5:=d5.2.size;clear d5 c2 H3;obtain ⟨iy,rfl⟩:∃iy:Nat,y=iy:=⟨y.toNat,by omega⟩;have hiy:iy<n:=by omega
 go_upto_region 4 with fail;obtain ⟨x,hx⟩:∃x,es[iy]?=some x:=⟨_,List.getElem?_eq_getElem (by rw [HN.out];omega)⟩;have okx:da x:=HOK.out.1 x (List.mem_of_getElem? hx);have CE:∀j u,j<6→(gX x)[j]?=some u→v5.cell? ⟨g,iy*6+j,none⟩=some u:=fun j u hj hu=>by
  have h1:(aG es)[iy*6+j]?=some u:=by
   rw [kU es iy j (by rw [HN.out];omega) hj];rw [List.getElem?_eq_getElem (by rw [HN.out];omega)] at hx;rw [Option.some.inj hx];exact hu
  have:=aB HR.out (iy*6+j) _ h1;simpa using this
 have g0:v5.cell? ⟨g,iy*6,none⟩=some (.bool x.valid):=CE 0 _ (by omega) rfl;have g1:v5.cell? ⟨g,iy*6+1,none⟩=some (.int .i64 x.level):=CE 1 _ (by omega) rfl;have g2:v5.cell? ⟨g,iy*6+2,none⟩=some (.int .u64 x.tag):=CE 2 _ (by omega) rfl;have g3:v5.cell? ⟨g,iy*6+3,none⟩=some (.int .u64 x.asid):=CE 3 _ (by omega) rfl;have g4:v5.cell? ⟨g,iy*6+4,none⟩=some (.bool x.glob):=CE 4 _ (by omega) rfl;have g5:v5.cell? ⟨g,iy*6+5,none⟩=some (.int .u64 x.pte):=CE 5 _ (by omega) rfl;have c52:=ag H5.out 2 (v:=.slice (some ⟨g,0,none⟩) n cp) rfl;obtain ⟨v6,hs6,P6,l6,n6⟩:=fV v5 #[.bool false,.int .i64 0,.int .u64 0,.int .u64 0,.bool false,.int .u64 0] (fy x) 83 mR rfl (kH _ _ _ _ _ _);have HS6:Hid _:=hs6;have lg5:g<v5.heap.size:=(bV HR.out).2.2;have l25:v2.heap.size<v5.heap.size:=(Array.getElem?_eq_some_iff.1 H5.out).1;have S:SpS w p f k5 v6 (w.heap.size+1) v2.heap.size v5.heap.size g n cp sets ways es x:=⟨d3.below (n6.mono d3.2.size) hp,ab H4.out n6 (by omega),ab H5.out n6 l25,P6,aX (ak HR.out n6) (by omega),by omega,by omega,by omega,by omega,by omega,by omega,by omega⟩;clear hs6 P6 n6 CE;go_upto_region 5 with (first | ((with_reducible refine av ?_ ?_ HS6.out ?_);(exact rfl);(exact rfl)));clear HS6 g0 g1 g2 g3 g4 g5 c52 d3 HR H4 H5 hx;generalize v5.heap.size=b8 at S ⊢;generalize v2.heap.size=b5 at S ⊢;generalize w.heap.size+1=b4 at S ⊢;clear lg5 l25 lg l3 s2 s4 s5 l1 n1 l6;simp only [Act.put];have bw: -9223372036854775808≤ways∧ways≤9223372036854775807:=by omega
 go_upto_if 24 with fail;go_cut [] from 25 to 28 (fun wx=>∃ways' x',(-9223372036854775808≤ways'∧ways'≤9223372036854775807)∧da x'∧SpS w p f k5 wx b4 b5 b8 g n cp sets ways' es x')
 case first=>
  have q8:=(Array.getElem?_eq_some_iff.1 S.h8).1;have q5:=(Array.getElem?_eq_some_iff.1 S.h5).1;have e0:=ag S.h8 0 (v:=.bool x.valid) rfl;have e1:=ag S.h8 1 (v:=.int .i64 x.level) rfl;have e2:=ag S.h8 2 (v:=.int .u64 x.tag) rfl;have e3:=ag S.h8 3 (v:=.int .u64 x.asid) rfl;have e5:=ag S.h8 5 (v:=.int .u64 x.pte) rfl;have r0:=au S.h8 0;have r1:=au S.h8 1;have r2:=au S.h8 2;have r3:=au S.h8 3;have r5:=au S.h8 5;have t1:=ag S.h5 1 (v:=.int .i64 ways) rfl;have u1:=au S.h5 1;obtain ⟨o1,o2,o3,o4⟩:=okx;have HS:Hid _:=S;clear S;by_cases hk:¬(kx=0)
  ·have hk':(kx == 0)=false:=by simpa using hk
   go_wp2_with fail;go_meet
   case rel=>exact ⟨ways,x,bw,⟨o1,o2,o3,o4⟩,HS.out⟩
  ·obtain rfl:kx=0:=by omega
   go_wp2_with fail;go_meet
   case rel=>exact ⟨_,x,by first | exact aL _ | exact aT _ _ _ | omega | (dsimp only;omega) | (dsimp only;unfold wrap64;omega),⟨o1,o2,o3,o4⟩,HS.out.put5 hp 1 _ rfl⟩
 case rest=>
 clear S okx bw hw;obtain ⟨ways,x,bw,okx,S⟩:=hcut;rename World=>wc0;go_upto_if 30 with fail;go_cut [] from 31 to 34 (fun wx=>∃ways' x',(-9223372036854775808≤ways'∧ways'≤9223372036854775807)∧da x'∧SpS w p f k5 wx b4 b5 b8 g n cp sets ways' es x')
 case first=>
  have q8:=(Array.getElem?_eq_some_iff.1 S.h8).1;have q5:=(Array.getElem?_eq_some_iff.1 S.h5).1;have e0:=ag S.h8 0 (v:=.bool x.valid) rfl;have e1:=ag S.h8 1 (v:=.int .i64 x.level) rfl;have e2:=ag S.h8 2 (v:=.int .u64 x.tag) rfl;have e3:=ag S.h8 3 (v:=.int .u64 x.asid) rfl;have e5:=ag S.h8 5 (v:=.int .u64 x.pte) rfl;have r0:=au S.h8 0;have r1:=au S.h8 1;have r2:=au S.h8 2;have r3:=au S.h8 3;have r5:=au S.h8 5;have t1:=ag S.h5 1 (v:=.int .i64 ways) rfl;have u1:=au S.h5 1;obtain ⟨o1,o2,o3,o4⟩:=okx;have HS:Hid _:=S;clear S;by_cases hk:¬(kx=1)
  ·have hk':(kx == 1)=false:=by simpa using hk
   go_wp2_with fail;go_meet
   case rel=>exact ⟨ways,x,bw,⟨o1,o2,o3,o4⟩,HS.out⟩
  ·obtain rfl:kx=1:=by omega
   go_wp2_with fail;go_meet
   case rel=>exact ⟨ways,⟨x.valid,x.level,IntKind.u64.wrap (x.tag+1),x.asid,x.glob,x.pte⟩,by first | exact aL _ | exact aT _ _ _ | omega | (dsimp only;omega) | (dsimp only;unfold wrap64;omega),⟨by first | exact aL _ | exact aT _ _ _ | omega | (dsimp only;omega) | (dsimp only;unfold wrap64;omega),by first | exact aL _ | exact aT _ _ _ | omega | (dsimp only;omega) | (dsimp only;unfold wrap64;omega),by first | exact aL _ | exact aT _ _ _ | omega | (dsimp only;omega) | (dsimp only;unfold wrap64;omega),by first | exact aL _ | exact aT _ _ _ | omega | (dsimp only;omega) | (dsimp only;unfold wrap64;omega)⟩,HS.out.put8 hp 2 _ rfl⟩
 case rest=>
 clear S okx bw;obtain ⟨ways,x,bw,okx,S⟩:=hcut;rename World=>wc1;go_upto_if 36 with fail;go_cut [] from 37 to 40 (fun wx=>∃ways' x',(-9223372036854775808≤ways'∧ways'≤9223372036854775807)∧da x'∧SpS w p f k5 wx b4 b5 b8 g n cp sets ways' es x')
 case first=>
  have q8:=(Array.getElem?_eq_some_iff.1 S.h8).1;have q5:=(Array.getElem?_eq_some_iff.1 S.h5).1;have e0:=ag S.h8 0 (v:=.bool x.valid) rfl;have e1:=ag S.h8 1 (v:=.int .i64 x.level) rfl;have e2:=ag S.h8 2 (v:=.int .u64 x.tag) rfl;have e3:=ag S.h8 3 (v:=.int .u64 x.asid) rfl;have e5:=ag S.h8 5 (v:=.int .u64 x.pte) rfl;have r0:=au S.h8 0;have r1:=au S.h8 1;have r2:=au S.h8 2;have r3:=au S.h8 3;have r5:=au S.h8 5;have t1:=ag S.h5 1 (v:=.int .i64 ways) rfl;have u1:=au S.h5 1;obtain ⟨o1,o2,o3,o4⟩:=okx;have HS:Hid _:=S;clear S;by_cases hk:¬(kx=2)
  ·have hk':(kx == 2)=false:=by simpa using hk
   go_wp2_with fail;go_meet
   case rel=>exact ⟨ways,x,bw,⟨o1,o2,o3,o4⟩,HS.out⟩
  ·obtain rfl:kx=2:=by omega
   go_wp2_with fail;go_meet
   case rel=>exact ⟨ways,⟨x.valid,x.level,x.tag,x.asid,x.glob,bits BinOp.xor IntKind.u64 x.pte 32⟩,by first | exact aL _ | exact aT _ _ _ | omega | (dsimp only;omega) | (dsimp only;unfold wrap64;omega),⟨by first | exact aL _ | exact aT _ _ _ | omega | (dsimp only;omega) | (dsimp only;unfold wrap64;omega),by first | exact aL _ | exact aT _ _ _ | omega | (dsimp only;omega) | (dsimp only;unfold wrap64;omega),by first | exact aL _ | exact aT _ _ _ | omega | (dsimp only;omega) | (dsimp only;unfold wrap64;omega),by first | exact aL _ | exact aT _ _ _ | omega | (dsimp only;omega) | (dsimp only;unfold wrap64;omega)⟩,HS.out.put8 hp 5 _ rfl⟩
 case rest=>
 clear S okx bw;obtain ⟨ways,x,bw,okx,S⟩:=hcut;rename World=>wc2;go_upto_if 42 with fail;go_cut [] from 43 to 43 (fun wx=>∃ways' x',(-9223372036854775808≤ways'∧ways'≤9223372036854775807)∧da x'∧SpS w p f k5 wx b4 b5 b8 g n cp sets ways' es x')
 case first=>
  have q8:=(Array.getElem?_eq_some_iff.1 S.h8).1;have q5:=(Array.getElem?_eq_some_iff.1 S.h5).1;have e0:=ag S.h8 0 (v:=.bool x.valid) rfl;have e1:=ag S.h8 1 (v:=.int .i64 x.level) rfl;have e2:=ag S.h8 2 (v:=.int .u64 x.tag) rfl;have e3:=ag S.h8 3 (v:=.int .u64 x.asid) rfl;have e5:=ag S.h8 5 (v:=.int .u64 x.pte) rfl;have r0:=au S.h8 0;have r1:=au S.h8 1;have r2:=au S.h8 2;have r3:=au S.h8 3;have r5:=au S.h8 5;have t1:=ag S.h5 1 (v:=.int .i64 ways) rfl;have u1:=au S.h5 1;obtain ⟨o1,o2,o3,o4⟩:=okx;have HS:Hid _:=S;clear S;by_cases hk:¬(kx=3)
  ·have hk':(kx == 3)=false:=by simpa using hk
   go_wp2_with fail;go_meet
   case rel=>exact ⟨ways,x,bw,⟨o1,o2,o3,o4⟩,HS.out⟩
  ·obtain rfl:kx=3:=by omega
   go_wp2_with fail;go_meet
   case rel=>exact ⟨ways,⟨x.valid,x.level,x.tag,65536,x.glob,x.pte⟩,by first | exact aL _ | exact aT _ _ _ | omega | (dsimp only;omega) | (dsimp only;unfold wrap64;omega),⟨by first | exact aL _ | exact aT _ _ _ | omega | (dsimp only;omega) | (dsimp only;unfold wrap64;omega),by first | exact aL _ | exact aT _ _ _ | omega | (dsimp only;omega) | (dsimp only;unfold wrap64;omega),by first | exact aL _ | exact aT _ _ _ | omega | (dsimp only;omega) | (dsimp only;unfold wrap64;omega),by first | exact aL _ | exact aT _ _ _ | omega | (dsimp only;omega) | (dsimp only;unfold wrap64;omega)⟩,HS.out.put8 hp 3 _ rfl⟩
 case rest=>
 clear S okx bw;obtain ⟨ways,x,bw,okx,S⟩:=hcut;rename World=>wc3;go_upto_if 45 with fail;go_cut [] from 46 to 49 (fun wx=>∃ways' x',(-9223372036854775808≤ways'∧ways'≤9223372036854775807)∧da x'∧SpS w p f k5 wx b4 b5 b8 g n cp sets ways' es x')
 case first=>
  have q8:=(Array.getElem?_eq_some_iff.1 S.h8).1;have q5:=(Array.getElem?_eq_some_iff.1 S.h5).1;have e0:=ag S.h8 0 (v:=.bool x.valid) rfl;have e1:=ag S.h8 1 (v:=.int .i64 x.level) rfl;have e2:=ag S.h8 2 (v:=.int .u64 x.tag) rfl;have e3:=ag S.h8 3 (v:=.int .u64 x.asid) rfl;have e5:=ag S.h8 5 (v:=.int .u64 x.pte) rfl;have r0:=au S.h8 0;have r1:=au S.h8 1;have r2:=au S.h8 2;have r3:=au S.h8 3;have r5:=au S.h8 5;have t1:=ag S.h5 1 (v:=.int .i64 ways) rfl;have u1:=au S.h5 1;obtain ⟨o1,o2,o3,o4⟩:=okx;have HS:Hid _:=S;clear S;by_cases hk:¬(kx=4)
  ·have hk':(kx == 4)=false:=by simpa using hk
   go_wp2_with fail;go_meet
   case rel=>exact ⟨ways,x,bw,⟨o1,o2,o3,o4⟩,HS.out⟩
  ·obtain rfl:kx=4:=by omega
   go_wp2_with fail;go_meet
   case rel=>exact ⟨ways,⟨x.valid,wrap64 (x.level+1),x.tag,x.asid,x.glob,x.pte⟩,by first | exact aL _ | exact aT _ _ _ | omega | (dsimp only;omega) | (dsimp only;unfold wrap64;omega),⟨by first | exact aL _ | exact aT _ _ _ | omega | (dsimp only;omega) | (dsimp only;unfold wrap64;omega),by first | exact aL _ | exact aT _ _ _ | omega | (dsimp only;omega) | (dsimp only;unfold wrap64;omega),by first | exact aL _ | exact aT _ _ _ | omega | (dsimp only;omega) | (dsimp only;unfold wrap64;omega),by first | exact aL _ | exact aT _ _ _ | omega | (dsimp only;omega) | (dsimp only;unfold wrap64;omega)⟩,HS.out.put8 hp 1 _ rfl⟩
 case rest=>
 clear S okx bw;obtain ⟨ways,x,bw,okx,S⟩:=hcut;rename World=>wc4;go_upto_if 51 with fail;go_cut [] from 52 to 55 (fun wx=>∃ways' x',(-9223372036854775808≤ways'∧ways'≤9223372036854775807)∧da x'∧SpS w p f k5 wx b4 b5 b8 g n cp sets ways' es x')
 case first=>
  have q8:=(Array.getElem?_eq_some_iff.1 S.h8).1;have q5:=(Array.getElem?_eq_some_iff.1 S.h5).1;have e0:=ag S.h8 0 (v:=.bool x.valid) rfl;have e1:=ag S.h8 1 (v:=.int .i64 x.level) rfl;have e2:=ag S.h8 2 (v:=.int .u64 x.tag) rfl;have e3:=ag S.h8 3 (v:=.int .u64 x.asid) rfl;have e5:=ag S.h8 5 (v:=.int .u64 x.pte) rfl;have r0:=au S.h8 0;have r1:=au S.h8 1;have r2:=au S.h8 2;have r3:=au S.h8 3;have r5:=au S.h8 5;have t1:=ag S.h5 1 (v:=.int .i64 ways) rfl;have u1:=au S.h5 1;obtain ⟨o1,o2,o3,o4⟩:=okx;have HS:Hid _:=S;clear S;by_cases hk:¬(kx=5)
  ·have hk':(kx == 5)=false:=by simpa using hk
   go_wp2_with fail;go_meet
   case rel=>exact ⟨ways,x,bw,⟨o1,o2,o3,o4⟩,HS.out⟩
  ·obtain rfl:kx=5:=by omega
   go_wp2_with fail;go_meet
   case rel=>exact ⟨ways,⟨!x.valid,x.level,x.tag,x.asid,x.glob,x.pte⟩,by first | exact aL _ | exact aT _ _ _ | omega | (dsimp only;omega) | (dsimp only;unfold wrap64;omega),⟨by first | exact aL _ | exact aT _ _ _ | omega | (dsimp only;omega) | (dsimp only;unfold wrap64;omega),by first | exact aL _ | exact aT _ _ _ | omega | (dsimp only;omega) | (dsimp only;unfold wrap64;omega),by first | exact aL _ | exact aT _ _ _ | omega | (dsimp only;omega) | (dsimp only;unfold wrap64;omega),by first | exact aL _ | exact aT _ _ _ | omega | (dsimp only;omega) | (dsimp only;unfold wrap64;omega)⟩,HS.out.put8 hp 0 _ rfl⟩
 case rest=>
 clear S okx bw;obtain ⟨ways,x,bw,okx,S⟩:=hcut;rename World=>wc5;go_upto_if 57 with fail;go_cut [] from 58 to 61 (fun wx=>∃ways' x',(-9223372036854775808≤ways'∧ways'≤9223372036854775807)∧da x'∧SpS w p f k5 wx b4 b5 b8 g n cp sets ways' es x')
 case first=>
  have q8:=(Array.getElem?_eq_some_iff.1 S.h8).1;have q5:=(Array.getElem?_eq_some_iff.1 S.h5).1;have e0:=ag S.h8 0 (v:=.bool x.valid) rfl;have e1:=ag S.h8 1 (v:=.int .i64 x.level) rfl;have e2:=ag S.h8 2 (v:=.int .u64 x.tag) rfl;have e3:=ag S.h8 3 (v:=.int .u64 x.asid) rfl;have e5:=ag S.h8 5 (v:=.int .u64 x.pte) rfl;have r0:=au S.h8 0;have r1:=au S.h8 1;have r2:=au S.h8 2;have r3:=au S.h8 3;have r5:=au S.h8 5;have t1:=ag S.h5 1 (v:=.int .i64 ways) rfl;have u1:=au S.h5 1;obtain ⟨o1,o2,o3,o4⟩:=okx;have HS:Hid _:=S;clear S;by_cases hk:¬(kx=6)
  ·have hk':(kx == 6)=false:=by simpa using hk
   go_wp2_with fail;go_meet
   case rel=>exact ⟨ways,x,bw,⟨o1,o2,o3,o4⟩,HS.out⟩
  ·obtain rfl:kx=6:=by omega
   go_wp2_with fail;go_meet
   case rel=>exact ⟨ways,⟨x.valid,x.level,x.tag,x.asid,x.glob,bits BinOp.xor IntKind.u64 x.pte 1⟩,by first | exact aL _ | exact aT _ _ _ | omega | (dsimp only;omega) | (dsimp only;unfold wrap64;omega),⟨by first | exact aL _ | exact aT _ _ _ | omega | (dsimp only;omega) | (dsimp only;unfold wrap64;omega),by first | exact aL _ | exact aT _ _ _ | omega | (dsimp only;omega) | (dsimp only;unfold wrap64;omega),by first | exact aL _ | exact aT _ _ _ | omega | (dsimp only;omega) | (dsimp only;unfold wrap64;omega),by first | exact aL _ | exact aT _ _ _ | omega | (dsimp only;omega) | (dsimp only;unfold wrap64;omega)⟩,HS.out.put8 hp 5 _ rfl⟩
 case rest=>
 clear S okx bw;obtain ⟨ways,x,bw,okx,S⟩:=hcut;rename World=>wc6
 focus
  have HO:Hid _:=S.row;have hcl:(aG es).length=n*6:=by rw [dC,HN.out]
  have y0:=aB HO.out (iy*6) _ (List.getElem?_eq_getElem (by omega));have y1:=aB HO.out (iy*6+1) _ (List.getElem?_eq_getElem (by omega));have y2:=aB HO.out (iy*6+2) _ (List.getElem?_eq_getElem (by omega));have y3:=aB HO.out (iy*6+3) _ (List.getElem?_eq_getElem (by omega));have y4:=aB HO.out (iy*6+4) _ (List.getElem?_eq_getElem (by omega));have y5:=aB HO.out (iy*6+5) _ (List.getElem?_eq_getElem (by omega));generalize (aG es)[iy*6]'_=z0 at y0;generalize (aG es)[iy*6+1]'_=z1 at y1;generalize (aG es)[iy*6+2]'_=z2 at y2;generalize (aG es)[iy*6+3]'_=z3 at y3;generalize (aG es)[iy*6+4]'_=z4 at y4;generalize (aG es)[iy*6+5]'_=z5 at y5;have r0:=aJ HO.out (iy*6);have r1:=aJ HO.out (iy*6+1);have r2:=aJ HO.out (iy*6+2);have r3:=aJ HO.out (iy*6+3);have r4:=aJ HO.out (iy*6+4);have r5:=aJ HO.out (iy*6+5);have lg:=(bV HO.out).2.2;have c52:=ag S.h5 2 (v:=.slice (some ⟨g,0,none⟩) n cp) rfl;have e0:=ag S.h8 0 (v:=.bool x.valid) rfl;have e1:=ag S.h8 1 (v:=.int .i64 x.level) rfl;have e2:=ag S.h8 2 (v:=.int .u64 x.tag) rfl;have e3:=ag S.h8 3 (v:=.int .u64 x.asid) rfl;have e4:=ag S.h8 4 (v:=.bool x.glob) rfl;have e5:=ag S.h8 5 (v:=.int .u64 x.pte) rfl;have HS:Hid _:=S;clear S hcl;go_upto_region 20 with fail;have gS:=aq (aq (aq (aq (aq (aq (az wc6 (some g)) (iy*6) (.bool x.valid)) (iy*6+1) (.int .i64 x.level)) (iy*6+2) (.int .u64 x.tag)) (iy*6+3) (.int .u64 x.asid)) (iy*6+4) (.bool x.glob)) (iy*6+5) (.int .u64 x.pte);have oN:=aC (aC (aC (aC (aC (aC HO.out (iy*6) (.bool x.valid)) (iy*6+1) (.int .i64 x.level)) (iy*6+2) (.int .u64 x.tag)) (iy*6+3) (.int .u64 x.asid)) (iy*6+4) (.bool x.glob)) (iy*6+5) (.int .u64 x.pte);rw [←fC es iy x (by rw [HN.out];omega)] at oN;have hgb:w.heap.size≤g:=(bV HO.out).2.1;have ng5:g≠b5:=fun h=>by subst h;exact kB HO.out HS.out.h5 (by decide) rfl
  have ng4:g≠b4:=fun h=>by subst h;exact kB HO.out HS.out.h4 (by decide) rfl
  have k4:=aw HS.out.h4 gS (Ne.symm ng4);have k5':=aw HS.out.h5 gS (Ne.symm ng5);have dN:=HS.out.d.own gS hgb hp;generalize (((((wc6.setCell ⟨g,iy*6,none⟩ (.bool x.valid)).setCell ⟨g,iy*6+1,none⟩ (.int .i64 x.level)).setCell ⟨g,iy*6+2,none⟩ (.int .u64 x.tag)).setCell ⟨g,iy*6+3,none⟩ (.int .u64 x.asid)).setCell ⟨g,iy*6+4,none⟩ (.bool x.glob)).setCell ⟨g,iy*6+5,none⟩ (.int .u64 x.pte)=vN at *;have J5:Hid _:=aH (P:=Tryz.prog) (T:=41) k5' Tryz.underlying41 rfl dl;obtain ⟨vE,hsE,hE,gE, -⟩:=dx k4 #[.int .i64 sets,.int .i64 ways,.slice (some ⟨g,0,none⟩) n cp] dl rfl (eP _ _ _ _ _);have HSE:Hid _:=hsE;have dE:=dN.own gE HS.out.l4 hp;have oE:=dn oN k4 (by decide) gE;have tOk:dA ⟨sets,ways,es.set iy x⟩:=⟨fun e he=>by
   rcases List.mem_or_eq_of_mem_set he with h | h
   ·exact HOK.out.1 e h
   ·rw [h];exact okx,HOK.out.2.1,bw,by simp only [List.length_set];rw [HN.out];omega⟩
  have LN:(es.set iy x).length=n:=by rw [List.length_set,HN.out]
  have oE':vE.ownsRow w.heap.size 83 6 (.slice (some ⟨g,0,none⟩) (es.set iy x).length cp) (es.set iy x).length (aG (es.set iy x)):=by rw [LN];exact oE
  have tN:TlbN vE p (some ⟨g,0,none⟩) cp ⟨sets,ways,es.set iy x⟩:=⟨ec oE' tOk,qN oE' hp⟩;have HTN:Hid _:=tN;clear y0 y1 y2 y3 y4 y5 r0 r1 r2 r3 r4 r5 e0 e1 e2 e3 e4 e5 c52 oN oE oE' tN HS HO;go_wp2_with (first | ((with_reducible refine aK ?_ J5.out ?_);(exact rfl)) | ((with_reducible refine av ?_ ?_ HSE.out ?_);(exact rfl);(exact rfl)));refine dc (b:=b4) Tryz.results68 rfl (ba (P:=Tryz.prog) hE Tryz.underlying41 rfl dl) rfl ?_;exact ⟨some ⟨g,0,none⟩,cp,⟨sets,ways,es.set iy x⟩,(by show _=Ending.returned (.agg #[.int .i64 sets,.int .i64 ways,.slice (some ⟨g,0,none⟩) (es.set iy x).length cp]);rw [LN]),⟨HTN.out,fun q hq=>by cases hq;exact hgb⟩,LN,k5,dE⟩
end Go.Proofs.YthekickjjaleaaaGreat

namespace Go.Proofs.YthekickjjaleaaaGreat
open Go.RowKit
set_option linter.unusedVariables false
structure NvS (w:World) (p:Nat) (f:Nat→Int) (k:Nat) (wr:World) (b3 b8 b off c n:Nat) (sets ways:Int) (es:List EntM) (x:EntM):Prop where
 d:DrewN w p f k wr
 h3:wr.heap[b3]?=some (.cells #[.int .i64 sets,.int .i64 ways,.slice (some ⟨b,off,none⟩) n c] 41 (0,0))
 h8:wr.heap[b8]?=some (.cells (fy x) 83 (0,0))
 row:RowC wr (some ⟨b,off,none⟩) n 6 (aG es)
 l3:w.heap.size≤b3
 l8:w.heap.size≤b8
 n38:b3≠b8
 nb8:b≠b8
 nbp:b≠p
theorem NvS.draw {w wr v:World} {p:Nat} {f:Nat→Int} {k k' b3 b8 b off c n:Nat} {sets ways:Int} {es:List EntM} {x:EntM} (s:NvS w p f k wr b3 b8 b off c n sets ways es x) (hp:p<w.heap.size) (d:DrewN wr p f k' v):NvS w p f k' v b3 b8 b off c n sets ways es x:=
 ⟨s.d.trans d,aw s.h3 d.2 (by have:=s.l3;omega),aw s.h8 d.2 (by have:=s.l8;omega),s.row.gb d.2 s.nbp,s.l3,s.l8,s.n38,s.nb8,s.nbp⟩
theorem NvS.take {w wr:World} {p:Nat} {f:Nat→Int} {k b3 b8 b off c n:Nat} {sets ways:Int} {es:List EntM} {x:EntM} (s:NvS w p f k wr b3 b8 b off c n sets ways es x) (hp:p<w.heap.size) (x':EntM):
 ∃v,(Instr.storeAt 83 (.pointer (some ⟨b8,0,none⟩)) (.agg (fy x'))).run Tryz.prog wr=.ok () v∧NvS w p f k v b3 b8 b off c n sets ways es x':=by
 obtain ⟨vE,hsE,hE,gE, -⟩:=dx s.h8 (fy x') mR rfl (kH _ _ _ _ _ _);exact ⟨vE,hsE,s.d.own gE s.l8 hp,aw s.h3 gE s.n38,hE,s.row.gb gE s.nb8,s.l3,s.l8,s.n38,s.nb8,s.nbp⟩
theorem NvS.low {w wr:World} {p:Nat} {f:Nat→Int} {k b3 b8 b off c n:Nat} {sets ways:Int} {es:List EntM} {x:EntM} (s:NvS w p f k wr b3 b8 b off c n sets ways es x):b8<wr.heap.size∧wr.cell? ⟨b8,0,none⟩=some (.bool x.valid)∧wr.cell? ⟨b8,1,none⟩=some (.int .i64 x.level)∧wr.cell? ⟨b8,2,none⟩=some (.int .u64 x.tag)∧wr.cell? ⟨b3,2,none⟩=some (.slice (some ⟨b,off,none⟩) n c):=
 ⟨(Array.getElem?_eq_some_iff.1 s.h8).1,ag s.h8 0 rfl,ag s.h8 1 rfl,ag s.h8 2 rfl,ag s.h3 2 rfl⟩
end Go.Proofs.YthekickjjaleaaaGreat

namespace Go.Proofs.YthekickjjaleaaaGreat
open Go.RowKit
set_option linter.unusedVariables false
attribute [local go_sem ↓] Go.wp_at_zero Go.wp_at_succ
structure StS (w:World) (p:Nat) (f:Nat→Int) (k:Nat) (wr:World) (b10 g len cp:Nat) (zs:List Int) (r1 r2 r3:Int) (ra:Option Addr) (rc m:Nat) (rs:List eh):Prop where
 d:DrewN w p f k wr
 h10:wr.heap[b10]?=some (.cells #[.int .i64 r1,.int .i64 r2,.int .u64 r3,.slice ra m rc] 154 (0,0))
 o:OwnB 5 wr w.heap.size g len cp zs
 row:RowC wr ra m 3 (eo rs)
 rn:∀q,ra=some q→q.block≠p
 l10:w.heap.size≤b10
theorem StS.draw {w wr v:World} {p:Nat} {f:Nat→Int} {k k' b10 g len cp:Nat} {zs:List Int} {r1 r2 r3:Int} {ra:Option Addr} {rc m:Nat} {rs:List eh} (s:StS w p f k wr b10 g len cp zs r1 r2 r3 ra rc m rs) (hp:p<w.heap.size) (d:DrewN wr p f k' v):StS w p f k' v b10 g len cp zs r1 r2 r3 ra rc m rs:=
 ⟨s.d.trans d,aw s.h10 d.2 (by have:=s.l10;omega),s.o.gb d.2 (by have:=s.o.facts.2.1;omega),RowC.gb' s.row d.2 s.rn,s.rn,s.l10⟩
theorem StS.out {w wr:World} {p:Nat} {f:Nat→Int} {k b10 g len cp:Nat} {zs:List Int} {r1 r2 r3:Int} {ra:Option Addr} {rc m:Nat} {rs:List eh} (s:StS w p f k wr b10 g len cp zs r1 r2 r3 ra rc m rs) (hp:p<w.heap.size) (hl:len≤1048576) (hz:∀i:Nat,0≤zs[i]?.getD 0∧zs[i]?.getD 0≤255):BytN wr p (some ⟨g,0,none⟩) len cp zs:=
 ⟨s.o.byt hz,fun q hq=>by cases hq;exact ⟨by have:=s.o.facts.2.1;show g≠p;omega,s.o.facts.2.2.1⟩,hl,s.o.facts.2.2.2.1,by have:=s.o.facts.2.2.2.2;unfold maxLen at this;omega⟩
end Go.Proofs.YthekickjjaleaaaGreat

namespace Go.Proofs.YthekickjjaleaaaGreat
open Go.RowKit
set_option linter.unusedVariables false
structure OutS (w:World) (p:Nat) (f:Nat→Int) (k:Nat) (wr:World) (g n cp:Nat) (zs:List Int):Prop where
 d:DrewN w p f k wr
 o:OwnB 5 wr w.heap.size g n cp zs
 l:zs.length=n
 b:∀i:Nat,0≤zs[i]?.getD 0∧zs[i]?.getD 0≤255
theorem OutS.draw {w wr v:World} {p:Nat} {f:Nat→Int} {k k' g n cp:Nat} {zs:List Int} (s:OutS w p f k wr g n cp zs) (hp:p<w.heap.size) (d:DrewN wr p f k' v):OutS w p f k' v g n cp zs:=
 ⟨s.d.trans d,s.o.gb d.2 (by have:=s.o.facts.2.1;omega),s.l,s.b⟩
theorem OutS.below {w wr v:World} {p:Nat} {f:Nat→Int} {k g n cp:Nat} {zs:List Int} (s:OutS w p f k wr g n cp zs) (hp:p<w.heap.size) (m:Below wr.heap.size wr v):OutS w p f k v g n cp zs:=
 ⟨s.d.below (m.mono s.d.2.size) hp,s.o.keep m s.o.facts.2.2.1,s.l,s.b⟩
theorem OutS.app {w wr v:World} {p:Nat} {f:Nat→Int} {k g n cp g' cp' m:Nat} {zs ys:List Int} (s:OutS w p f k wr g n cp zs) (hp:p<w.heap.size) (hm:Below w.heap.size wr v) (o:OwnB 5 v w.heap.size g' (n+m) cp' (zs++ys)) (hy:ys.length=m) (hb:∀i:Nat,0≤ys[i]?.getD 0∧ys[i]?.getD 0≤255):OutS w p f k v g' (n+m) cp' (zs++ys):=
 ⟨s.d.below hm hp,o,by rw [List.length_append,hy,s.l],cV fun y hy=>by
  rcases List.mem_append.1 hy with h | h
  ·exact dB s.b y h
  ·exact dB hb y h⟩
theorem qZ {op a b c imm:Int} (h1:0≤op∧op≤255) (h2:0≤a∧a≤7) (h3:0≤b∧b≤7) (h4:0≤c∧c≤255):∀i:Nat,0≤(sK op a b c imm)[i]?.getD 0∧(sK op a b c imm)[i]?.getD 0≤255:=
 cV fun y hy=>by
  have hm:=iH imm 255 (by omega) (by omega);simp only [sK,List.mem_cons,List.not_mem_nil,or_false] at hy;rcases hy with rfl | rfl | rfl | rfl <;> omega
def lenOf:Value→Nat
 | .slice _ n _=>n
 | _=>0
end Go.Proofs.YthekickjjaleaaaGreat

namespace Go.Proofs.YthekickjjaleaaaGreat
open Go.RowKit
set_option linter.unusedVariables false
theorem Tryz.infoSl:(Tryz.prog.info? 22).map (fun i=>(i.zero,i.size,i.bytes))=some (some (.slice none 0 0),1,24):=by kernel_rfl
def rW (wr:World) (base gO:Nat) (cells:List Value) (rs:List (List Int)):Prop:=
 cells.length=rs.length∧∀(i:Nat) (r:List Int),rs[i]?=some r→∃ge ce,cells[i]?=some (.slice (some ⟨ge,0,none⟩) r.length ce)∧OwnB 5 wr base ge r.length ce r∧ge≠gO∧(∀j:Nat,0≤r[j]?.getD 0∧r[j]?.getD 0≤255)∧r.length≤300∧1≤r.length
structure ScS (w:World) (p:Nat) (f:Nat→Int) (k:Nat) (wr:World) (g nn cp:Nat) (zs:List Int) (gR m cR:Nat) (rs:List (List Int)):Prop where
 s:OutS w p f k wr g nn cp zs
 c:∃cells,OwnC 22 1 wr w.heap.size gR m cR cells∧rW wr w.heap.size g cells rs
 l:rs.length=m
theorem ScS.draw {w wr v:World} {p:Nat} {f:Nat→Int} {k k' g nn cp:Nat} {zs:List Int} {gR m cR:Nat} {rs:List (List Int)} (s:ScS w p f k wr g nn cp zs gR m cR rs) (hp:p<w.heap.size) (d:DrewN wr p f k' v):ScS w p f k' v g nn cp zs gR m cR rs:=by
 obtain ⟨cells,o,hc,hr⟩:=s.c;refine ⟨s.s.draw hp d,⟨cells,o.gb d.2 (by have:=o.facts.2.1;omega),hc,fun i r hi=>?_⟩,s.l⟩;obtain ⟨ge,ce,h1,h2,h3⟩:=hr i r hi;exact ⟨ge,ce,h1,h2.gb d.2 (by have:=h2.facts.2.1;omega),h3⟩
theorem ScS.below {w wr v:World} {p:Nat} {f:Nat→Int} {k g nn cp:Nat} {zs:List Int} {gR m cR:Nat} {rs:List (List Int)} (s:ScS w p f k wr g nn cp zs gR m cR rs) (hp:p<w.heap.size) (n:Below wr.heap.size wr v):ScS w p f k v g nn cp zs gR m cR rs:=by
 obtain ⟨cells,o,hc,hr⟩:=s.c;refine ⟨s.s.below hp n,⟨cells,o.keep n o.facts.2.2.1,hc,fun i r hi=>?_⟩,s.l⟩;obtain ⟨ge,ce,h1,h2,h3⟩:=hr i r hi;exact ⟨ge,ce,h1,h2.keep n h2.facts.2.2.1,h3⟩
theorem kX {e e':TypeId} {s s' base base' g g' n n' c c':Nat} {w:World} {cs cs':List Value} (h:OwnC e s w base g n c cs) (h':OwnC e' s' w base' g' n' c' cs') (he:e≠e'):g≠g':=by
 rintro rfl;rcases h.2 with ⟨h1,_⟩ | ⟨x,cap,cur,h1,_,h2,_⟩
 ·simp at h1
 ·rcases h'.2 with ⟨h3,_⟩ | ⟨y,cap',cur',h3,_,h4,_⟩
  ·simp at h3
  ·simp at h1 h3;obtain ⟨rfl,_⟩:=h1;obtain ⟨rfl,_⟩:=h3;rw [h2] at h4;simp at h4;exact he h4.2
theorem ScS.add {w wr v:World} {p:Nat} {f:Nat→Int} {k g nn cp:Nat} {zs:List Int} {gR m cR gR' cR':Nat} {rs:List (List Int)} {cells:List Value} {ge ce:Nat} {r:List Int} (s:ScS w p f k wr g nn cp zs gR m cR rs) (hp:p<w.heap.size)
 (o:OwnC 22 1 wr w.heap.size gR m cR cells) (hc:rW wr w.heap.size g cells rs) (hg:wr.grownBy v (some gR)) (o':OwnC 22 1 v w.heap.size gR' (m+1) cR' (cells++[.slice (some ⟨ge,0,none⟩) r.length ce]))
 (oe:OwnB 5 wr w.heap.size ge r.length ce r) (hge:ge≠g) (hb:∀j:Nat,0≤r[j]?.getD 0∧r[j]?.getD 0≤255) (hl:r.length≤300) (hl1:1≤r.length):ScS w p f k v g nn cp zs gR' (m+1) cR' (rs++[r]):=by
 have n1:g≠gR:=kX s.s.o o (by decide);have n2:ge≠gR:=kX oe o (by decide);have hpR:p≠gR:=by have:=o.facts.2.1;omega
 have cur:CurN v p f k:=by
  obtain ⟨a,len,cap,code,h0,hf,hh,⟨b1,b2,b3⟩,hlt,hl⟩:=s.s.d.1;refine ⟨a,len,cap,code,h0,hf,by rw [hg.block p (Array.getElem?_eq_some_iff.1 hh).1 (by simpa using hpR)];exact hh,⟨b1,b2,?_⟩,hlt,hl⟩;by_cases h0:len=0
  ·exact .inl h0
  rcases b3 with b3 | ⟨b,off,rfl,hbw,hcc⟩
  ·exact .inl b3
  ·have hbp:b<p:=hlt (by omega) ⟨b,off,none⟩ rfl;refine .inr ⟨b,off,rfl,Nat.lt_of_lt_of_le hbw hg.size,fun j hj=>?_⟩;rw [←hcc j hj];unfold World.cell?;rw [hg.block b hbw (by have:=o.facts.2.1;simp;omega)]
 have gD:w.grownBy v (some p):=⟨hg.os.trans s.s.d.2.os,hg.tape.trans s.s.d.2.tape,hg.output.trans s.s.d.2.output,Nat.le_trans s.s.d.2.size hg.size,fun i hi hn=>(hg.block i (Nat.lt_of_lt_of_le hi s.s.d.2.size) (by have:=o.facts.2.1;simp;omega)).trans (s.s.d.2.block i hi hn)⟩;refine ⟨⟨⟨cur,gD⟩,s.s.o.gb hg n1,s.s.l,s.s.b⟩,⟨_,o',by simp [hc.1],fun i r' hi=>?_⟩,by simp [s.l]⟩;by_cases hlt:i<rs.length
 ·rw [List.getElem?_append_left hlt] at hi;obtain ⟨ge',ce',h1,h2,h3,h4⟩:=hc.2 i r' hi;exact ⟨ge',ce',by rw [List.getElem?_append_left (by rw [hc.1];exact hlt)];exact h1,h2.gb hg (kX h2 o (by decide)),h3,h4⟩
 ·have hi':i=rs.length:=by
   have:=(List.getElem?_eq_some_iff.1 hi).1;simp at this;omega
  subst hi';simp at hi;subst hi;refine ⟨ge,ce,by rw [←hc.1];simp,oe.gb hg n2,hge,hb,hl,hl1⟩
theorem uB {P:Program} (w:World) {ops:Array Oper} {rest:List Oper} {o:Oper} {a:Act} {Q:Exit→Act→World→Prop} (hgd:o.guard=none) (s x:Operand) (t:TypeId)
 (ho:o.op=.call { callee:=.builtin .append,args:=#[s,x],argTypes:=#[t,t] }) (e:TypeId) (ht:P.underlying t=some (.slice e))
 (hi:(P.info? e).map (fun i=>(i.zero,i.size,i.bytes))=some (some (.int .u8 0),1,1))
 (base g n cap:Nat) (zs:List Int) (hs:a.eval s=.slice (some ⟨g,0,none⟩) n cap) (hown:OwnB e w base g n cap zs)
 (b off m c:Nat) (ys:List Int) (hx:a.eval x=.slice (some ⟨b,off,none⟩) m c) (hm:0<m) (hy:Byt w (some ⟨b,off,none⟩) m ys) (hbd:n+m≤2147483648) (hbw:base≤w.heap.size)
 (h:∀g' cap' w',OwnB e w' base g' (n+m) cap' (zs++ys)→w.grownBy w' (some g)→(g'=g∨g'=w.heap.size)→wpList P ops Q rest (a.put o.dst (.slice (some ⟨g',0,none⟩) (n+m) cap')) w'):wpList P ops Q (o::rest) a w:=by
 obtain ⟨i0,hi,hz0,hz1,hz2⟩:=info_parts hi;refine wpList_append_lies w hgd s x t ho base e i0 (.int .u8 0) 1 1 ht hi hz0 hz1 hz2 rfl (by decide) _ n _ hs hown ⟨b,off,none⟩ m c (ys.map (Value.int .u8)) hx (by simp [hy.1]) (vx hy) (tj _) hm (by unfold maxLen;omega) (by omega) hbw w.heap.size rfl ?_;intro g' cap' w' h1 h2 h3 _;refine h g' cap' w' ?_ h2 ?_
 ·unfold OwnB;rw [List.map_append];exact h1
 ·rcases h3 with h3 | h3
  ·exact .inl (by simpa [Value.ownBlock] using h3.symm)
  ·exact .inr h3
theorem ScS.out {w wr v:World} {p:Nat} {f:Nat→Int} {k g nn cp g' cp' l:Nat} {zs ys:List Int} {gR m cR:Nat} {rs:List (List Int)} (s:ScS w p f k wr g nn cp zs gR m cR rs) (hp:p<w.heap.size)
 (hg:wr.grownBy v (some g)) (o':OwnB 5 v w.heap.size g' (nn+l) cp' (zs++ys)) (hw:g'=g∨g'=wr.heap.size) (hy:ys.length=l) (hb:∀j:Nat,0≤ys[j]?.getD 0∧ys[j]?.getD 0≤255):ScS w p f k v g' (nn+l) cp' (zs++ys) gR m cR rs:=by
 obtain ⟨cells,o,hc,hr⟩:=s.c;have hpg:p≠g:=by have:=s.s.o.facts.2.1;omega
 have cur:CurN v p f k:=by
  obtain ⟨a,len,cap,code,h0,hf,hh,⟨b1,b2,b3⟩,hlt,hl⟩:=s.s.d.1;refine ⟨a,len,cap,code,h0,hf,by rw [hg.block p (Array.getElem?_eq_some_iff.1 hh).1 (by simpa using hpg)];exact hh,⟨b1,b2,?_⟩,hlt,hl⟩;by_cases h0:len=0
  ·exact .inl h0
  rcases b3 with b3 | ⟨b,off,rfl,hbw,hcc⟩
  ·exact .inl b3
  ·have hbp:b<p:=hlt (by omega) ⟨b,off,none⟩ rfl;refine .inr ⟨b,off,rfl,Nat.lt_of_lt_of_le hbw hg.size,fun j hj=>?_⟩;rw [←hcc j hj];unfold World.cell?;rw [hg.block b hbw (by have:=s.s.o.facts.2.1;simp;omega)]
 have gD:w.grownBy v (some p):=⟨hg.os.trans s.s.d.2.os,hg.tape.trans s.s.d.2.tape,hg.output.trans s.s.d.2.output,Nat.le_trans s.s.d.2.size hg.size,fun i hi hn=>(hg.block i (Nat.lt_of_lt_of_le hi s.s.d.2.size) (by have:=s.s.o.facts.2.1;simp;omega)).trans (s.s.d.2.block i hi hn)⟩;refine ⟨⟨⟨cur,gD⟩,o',by rw [List.length_append,hy,s.s.l],cV fun y hy=>?_⟩,⟨cells,o.gb hg (kX o s.s.o (by decide)),hc,fun i r hi=>?_⟩,s.l⟩
 ·rcases List.mem_append.1 hy with hy | hy
  ·exact dB s.s.b y hy
  ·exact dB hb y hy
 ·obtain ⟨ge,ce,h1,h2,h3,h4⟩:=hr i r hi;refine ⟨ge,ce,h1,h2.gb hg h3,?_,h4⟩;rcases hw with rfl | rfl
  ·exact h3
  ·have:=h2.facts.2.2.1;omega
end Go.Proofs.YthekickjjaleaaaGreat

namespace Go.Proofs.YthekickjjaleaaaGreat
open Go.RowKit
set_option linter.unusedVariables false
theorem wV {y z:Int} (h:0≤y∧y≤255) (h':0≤z∧z≤255):∀i:Nat,0≤[y,z][i]?.getD 0∧[y,z][i]?.getD 0≤255:=cV fun x hx=>by
 simp at hx;rcases hx with rfl | rfl
 ·exact h
 ·exact h'
theorem uz {w:World} {b off n m:Nat} {zs:List Int} (h:Byt w (some ⟨b,off,none⟩) n zs) (hm:m≤n):Byt w (some ⟨b,off,none⟩) m (zs.take m):=by
 obtain ⟨h1,h2,h3⟩:=h;refine ⟨by rw [List.length_take];omega,fun i=>?_,?_⟩
 ·by_cases hi:i<m
  ·rw [List.getElem?_take_of_lt hi];exact h2 i
  ·rw [List.getElem?_eq_none (by rw [List.length_take];omega)];simp
 ·rcases h3 with h3 | ⟨b',off',e,hlt,hc⟩
  ·exact .inl (by omega)
  ·refine .inr ⟨b',off',e,hlt,fun j hj=>?_⟩;rw [List.getElem?_take_of_lt hj];exact hc j (by omega)
theorem wW {xs ys:List Int} (h:∀j:Nat,0≤xs[j]?.getD 0∧xs[j]?.getD 0≤255) (h':∀j:Nat,0≤ys[j]?.getD 0∧ys[j]?.getD 0≤255):∀j:Nat,0≤(xs++ys)[j]?.getD 0∧(xs++ys)[j]?.getD 0≤255:=cV fun y hy=>by
 rcases List.mem_append.1 hy with hy | hy
 ·exact dB h y hy
 ·exact dB h' y hy
theorem qi (a:Int) (zs:List Int):(kL a zs).length=3+zs.length:=by simp [kL];omega
theorem rT {a:Int} {zs:List Int} (h0:0≤a) (h1:a≤65535) (hl:zs.length≤255) (hb:∀j:Nat,0≤zs[j]?.getD 0∧zs[j]?.getD 0≤255):∀j:Nat,0≤(kL a zs)[j]?.getD 0∧(kL a zs)[j]?.getD 0≤255:=cV fun y hy=>by
 simp only [kL,List.cons_append,List.nil_append,List.mem_cons] at hy;rcases hy with rfl | rfl | rfl | hy
 ·omega
 ·omega
 ·omega
 ·exact dB hb y hy
theorem vm (page index pte:Int):(ub page index pte).length=11:=by rw [ub,qi,oB]
theorem wD {page index pte:Int} (h1:0≤page∧page≤63) (h2:0≤index∧index≤7) (h3:0≤pte∧pte≤18446744073709551615):∀j:Nat,0≤(ub page index pte)[j]?.getD 0∧(ub page index pte)[j]?.getD 0≤255:=rT (by omega) (by omega) (by rw [oB];omega) (cV (iK 8 pte))
theorem uA {P:Program} (w:World) {ops:Array Oper} {rest:List Oper} {o:Oper} {a:Act} {Q:Exit→Act→World→Prop} (hgd:o.guard=none) (s x:Operand) (t:TypeId)
 (ho:o.op=.call { callee:=.builtin .append,args:=#[s,x],argTypes:=#[t,t] }) (e:TypeId) (ht:P.underlying t=some (.slice e)) (z:Value) (size bytes:Nat)
 (hi:(P.info? e).map (fun i=>(i.zero,i.size,i.bytes))=some (some z,size,bytes)) (hzs:z.cells.size=size) (hsz:0<size)
 (base g n cap:Nat) (cs:List Value) (hs:a.eval s=.slice (some ⟨g,0,none⟩) n cap) (hown:OwnC e size w base g n cap cs)
 (b off m c:Nat) (ys:List Value) (hx:a.eval x=.slice (some ⟨b,off,none⟩) m c) (hm:0<m) (hy:RowC w (some ⟨b,off,none⟩) m size ys) (h1:∀u∈ys,u.oneCell'=true)
 (hbd:(n+m)*bytes≤140737488355328) (hbd':n+m≤9223372036854775807) (hbw:base≤w.heap.size)
 (h:∀g' cap' w',OwnC e size w' base g' (n+m) cap' (cs++ys)→w.grownBy w' (some g)→wpList P ops Q rest (a.put o.dst (.slice (some ⟨g',0,none⟩) (n+m) cap')) w'):wpList P ops Q (o::rest) a w:=
 wpList_plain hgd fun _ hK=>by
  obtain ⟨i0,hi,hz0,hz1,hz2⟩:=info_parts hi;refine wp_append_own w s x t ho base e i0 z size bytes ht hi hz0 hz1 hz2 hzs hsz _ n _ hs hown ⟨b,off,none⟩ m c ys hx hy.1 (nl hy) h1 (by unfold maxLen;omega) hbd (by omega) ?_;intro v' w' h1 h2 h3;rcases h1.2 with ⟨e1,e2⟩ | ⟨g,cap,cur,e1,r⟩
  ·omega
  ·subst e1;exact hK _ _ (h g cap w' h1 h2)
end Go.Proofs.YthekickjjaleaaaGreat
