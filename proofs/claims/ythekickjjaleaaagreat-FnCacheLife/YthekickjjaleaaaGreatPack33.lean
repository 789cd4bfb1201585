import Derived.Test.YthekickjjaleaaaGreatPack32
import Derived.Test.YthekickjjaleaaaGreatPack31
import Derived.Test.YthekickjjaleaaaGreatPack10
import Derived.Test.YthekickjjaleaaaGreatPack07
import Derived.Test.YthekickjjaleaaaGreatPack30
import Derived.Test.YthekickjjaleaaaGreatPack08
import Derived.Test.YthekickjjaleaaaGreatPack09
import Derived.Test.YthekickjjaleaaaGreatPack06
import Derived.Laws.CopyRow
import Derived.Laws.CopyOwn
namespace Go.Proofs.YthekickjjaleaaaGreat
open Go.RowKit
set_option linter.unusedVariables false
attribute [local go_sem ↓] Go.wp_at_zero Go.wp_at_succ
structure IS (u:World) (p:Nat) (f:Nat→Int) (k:Nat) (wr:World) (b6:Nat) (a:Option Addr) (c:Nat) (t:TlbM):Prop where
 d:DrewN u p f k wr
 h6:wr.heap[b6]?=some (.cells #[.int .i64 t.sets,.int .i64 t.ways,.slice a t.es.length c] 41 (0,0))
 tn:TlbN wr p a c t
 l6:u.heap.size≤b6
theorem IS.draw {u wr v:World} {p:Nat} {f:Nat→Int} {k k' b6:Nat} {a:Option Addr} {c:Nat} {t:TlbM} (s:IS u p f k wr b6 a c t) (hp:p<u.heap.size) (d:DrewN wr p f k' v):IS u p f k' v b6 a c t:=
 ⟨s.d.trans d,aw s.h6 d.2 (by have:=s.l6;omega),s.tn.gb d.2,s.l6⟩
theorem IS.keep {u wr v:World} {p:Nat} {f:Nat→Int} {k b6:Nat} {a:Option Addr} {c:Nat} {t:TlbM} (s:IS u p f k wr b6 a c t) (hp:p<u.heap.size) (hb:Below wr.heap.size wr v):IS u p f k v b6 a c t:=
 ⟨s.d.below (hb.mono s.d.2.size) hp,ab s.h6 hb (Array.getElem?_eq_some_iff.1 s.h6).1,s.tn.keep hb,s.l6⟩
structure XS (u:World) (p:Nat) (f:Nat→Int) (k:Nat) (wr:World) (b6 b13:Nat) (a:Option Addr) (c:Nat) (t:TlbM) (x:EntM):Prop where
 i:IS u p f k wr b6 a c t
 h13:wr.heap[b13]?=some (.cells (fy x) 83 (0,0))
 l13:u.heap.size≤b13
 n13:Rw wr b13 a
 ne:b6≠b13
 ok:da x
theorem XS.draw {u wr v:World} {p:Nat} {f:Nat→Int} {k k' b6 b13:Nat} {a:Option Addr} {c:Nat} {t:TlbM} {x:EntM} (s:XS u p f k wr b6 b13 a c t x) (hp:p<u.heap.size) (d:DrewN wr p f k' v):XS u p f k' v b6 b13 a c t x:=
 ⟨s.i.draw hp d,aw s.h13 d.2 (by have:=s.l13;omega),s.l13,s.n13.mono d.2.size,s.ne,s.ok⟩
theorem XS.put {u wr:World} {p:Nat} {f:Nat→Int} {k b6 b13:Nat} {a:Option Addr} {c:Nat} {t:TlbM} {x x':EntM} (s:XS u p f k wr b6 b13 a c t x) (hp:p<u.heap.size) (i:Nat) (y:Value) (he:(fy x).setIfInBounds i y=fy x') (ok:da x'):XS u p f k (wr.setCell ⟨b13,i,none⟩ y) b6 b13 a c t x':=
 have gS:=aq (az wr (some b13)) i y;have tk:TlbN (wr.setCell ⟨b13,i,none⟩ y) b13 a c t:=TlbN.gb ⟨s.i.tn.t,s.n13⟩ gS
 ⟨⟨s.i.d.own gS s.l13 hp,cQ s.i.h6 i y s.ne,⟨tk.t,s.i.tn.n.mono gS.size⟩,s.i.l6⟩,by rw [←he];exact cd s.h13 i y,s.l13,tk.n,s.ne,ok⟩
theorem uN {P:Program} {fn:Func} {R:Ending→World→Prop} {a:Act} {w:World} {s0 s1 s2:Tmp} {T U:TypeId} {b c:Nat} {V0 V1 V2:Value} (hr:fn.results=#[ResultVar.cell s0 T,ResultVar.cell s1 U,ResultVar.tmp s2]) (h0:a.tmps[s0]?=some (.pointer (some ⟨b,0,none⟩))) (h1:a.tmps[s1]?=some (.pointer (some ⟨c,0,none⟩))) (h2:a.tmps[s2]?=some V2) (hl:(loadVar T ⟨b,0,none⟩).run P w=.ok V0 w) (hm:(loadVar U ⟨c,0,none⟩).run P w=.ok V1 w) (hd:a.defers=[]) (hR:R (.returned (.tuple #[V0,V1,V2])) w):bodyPost P fn R .ret a w:=by
 refine bodyPost_ret (v:=.tuple #[V0,V1,V2]) ?_ hd hR;simp [results,hr,h0,h1,h2,asAddr,hl,hm,Sem.run_bind]
theorem wK {level va satp pte:Int} (hl:0≤level∧level≤2) (hp:0≤pte∧pte≤18446744073709551615):da (eF level va satp pte):=by
 refine ⟨by show -9223372036854775808≤level∧level≤9223372036854775807;omega,?_,?_,hp⟩
 ·show 0≤ev va level∧ev va level≤18446744073709551615;unfold ev;split
  ·omega
  ·split <;> omega
 ·show 0≤aU satp∧aU satp≤18446744073709551615;unfold aU;omega
set_option maxRecDepth 20000 in
set_option maxHeartbeats 12800000 in
theorem uO (a0:Option Addr) (len cap:Nat) (code:List Int) (w:World) (hB:Byt w a0 len code) (hl:len≤1048576):
 Calls Tryz.prog 44 #[.slice a0 len cap] w fun e w'=>∃(a:Option Addr) (c:Nat) (t:TlbM) (x:EntM) (pick:Int),e=.returned (.tuple #[.agg #[.int .i64 t.sets,.int .i64 t.ways,.slice a t.es.length c],.agg (fy x),.int .i64 pick])∧TlbAt w' (.agg #[.int .i64 t.sets,.int .i64 t.ways,.slice a t.es.length c]) t∧da x∧(0≤pick∧pick≤256)∧Below w.heap.size w w':=by
 have CN:Hid (∀u,Below w.heap.size w u→Calls Tryz.prog 60 #[.slice a0 len cap] u fun e w'=>e=.returned (.pointer (some ⟨u.heap.size,0,none⟩))∧CurN w' u.heap.size (mW code (jE code (54321+(len:Int)))) 0∧Below u.heap.size u w'):=fun u hu=>wH a0 len cap code u (hB.keep hu) hl;generalize mW code (jE code (54321+(len:Int)))=f at *;clear hB hl;go_enter Tryz.func44,Tryz.ntmps44;go_upto_region 1 with fail;have F:=eJ w #[.int .i64 0,.int .i64 0,.slice none 0 0] #[.bool false,.int .i64 0,.int .u64 0,.int .u64 0,.bool false,.int .u64 0] 41 83;generalize (w.alloc (Obj.cells #[.int .i64 0,.int .i64 0,.slice none 0 0] 41)).alloc (Obj.cells #[.bool false,.int .i64 0,.int .u64 0,.int .u64 0,.bool false,.int .u64 0] 83)=v1 at F ⊢;obtain ⟨h2,h3,l1,n1⟩:=F;go_wp2_with fail;refine (CN.out v1 n1).mono ?_;rintro e u1 ⟨rfl,cu,nu⟩;have hp1:=cu.lt;have su:=nu.size;have H2:Hid (u1.heap[w.heap.size]?=some (.cells #[.int .i64 0,.int .i64 0,.slice none 0 0] 41 (0,0))):=ab h2 nu (by omega);have H3:Hid (u1.heap[w.heap.size+1]?=some (.cells #[.bool false,.int .i64 0,.int .u64 0,.int .u64 0,.bool false,.int .u64 0] 83 (0,0))):=ab h3 nu (by omega);have nW:Below w.heap.size w u1:=Below.step n1 nu (Nat.le_refl _);have hpl:w.heap.size+1<v1.heap.size:=by omega
 generalize hpe:v1.heap.size=p at *;clear h2 h3 n1 nu CN l1 hpe;go_wp2_with fail;refine (rk p f 0 u1 cu).mono ?_;rintro e v2 ⟨a,c,t,pb,k2,rfl,tn,hle,hge,d2⟩;obtain ⟨v3,hs3,P3,l3,n3⟩:=fV v2 #[.int .i64 0,.int .i64 0,.slice none 0 0] #[.int .i64 t.sets,.int .i64 t.ways,.slice a t.es.length c] 41 dl rfl (eP _ _ _ _ _);have HS3:Hid _:=hs3;have S:IS u1 p f k2 v3 v2.heap.size a c t:=⟨d2.below (n3.mono d2.2.size) hp1,P3,tn.keep n3,d2.2.size⟩;have HGE:Hid (∀x,a=some x→u1.heap.size≤x.block):=hge;clear hs3 P3 n3 l3 tn hge d2 hle cu;go_upto_region 3 with (first | ((with_reducible refine av ?_ ?_ HS3.out ?_);(exact rfl);(exact rfl)));clear HS3;generalize hb6:v2.heap.size=b6 at S ⊢;clear hb6;go_wp2_with fail;refine (uR p f k2 _ S.d.1).mono ?_;rintro e v4 ⟨va,k4, -,bva,rfl,dd⟩;replace S:=S.draw hp1 dd;clear dd;go_wp2_with fail;refine (bD p f k4 3 _ S.d.1 (by omega) (by omega)).mono ?_;rintro e v5 ⟨lv0,k5, -,hlv0,rfl,dd⟩;replace S:=S.draw hp1 dd;clear dd;go_wp2_with fail;refine (bD p f k5 8 _ S.d.1 (by omega) (by omega)).mono ?_;rintro e v6 ⟨nn,k6, -,hnn,rfl,dd⟩;replace S:=S.draw hp1 dd;clear dd;go_wp2_with fail;refine (dt p f k6 2 _ S.d.1 (by omega) (by omega)).mono ?_;rintro e v7 ⟨user,k7, -,rfl,dd⟩;replace S:=S.draw hp1 dd;clear dd;go_wp2_with fail;refine (ik p f k7 user _ S.d.1).mono ?_;rintro e v8 ⟨fl,k8, -,hfl,rfl,dd⟩;replace S:=S.draw hp1 dd;clear dd;go_upto_if 37 with fail;go_cut [9,11] from 38 to 44 (fun s9 s11 wx=>∃(lv pte:Int) (k':Nat),s9=.int .i64 lv∧s11=.int .u64 pte∧(0≤lv∧lv≤2)∧(0≤pte∧pte≤18446744073709551615)∧IS u1 p f k' wx b6 a c t)
 case first=>
  cases pb
  ·go_wp2_with fail;go_meet
   case rel=>exact ⟨_,_,_,rfl,rfl,by omega,by omega,S⟩
  ·go_wp2_with fail;refine (bD p f k8 2 _ S.d.1 (by omega) (by omega)).mono ?_;rintro e v9 ⟨y9,k9, -,hy9,rfl,dd⟩;replace S:=S.draw hp1 dd;clear dd;go_wp2_with fail;go_meet
   case rel=>exact ⟨_,_,_,rfl,rfl,by omega,by omega,S⟩
 case rest=>
 clear S;obtain ⟨lv,pte,k9,rfl,rfl,blv,bpte,S⟩:=hcut;go_wp2_with fail;refine (bD p f k9 3 _ S.d.1 (by omega) (by omega)).mono ?_;rintro e v10 ⟨asx,k10, -,hasx,rfl,dd⟩;replace S:=S.draw hp1 dd;clear dd;have CP:Hid (∀u,Calls Tryz.prog 84 #[.int .i64 44] u fun e w'=>e=.returned (.int .u64 17592186044416)∧w'=u):=fun u=>aV 44 17592186044416 u (by omega) (by decide);go_wp2_with fail;refine (CP.out _).mono ?_;rintro e _ ⟨rfl,rfl⟩;have CE:Hid (∀u,Calls Tryz.prog 81 #[.int .i64 lv,.int .u64 va,.int .u64 (asx*17592186044416),.int .u64 pte] u fun e w'=>e=.returned (gx (eF lv va (asx*17592186044416) pte))∧Below u.heap.size u w'):=fun u=>jt lv va (asx*17592186044416) pte u (by omega) (by omega) (by omega) (by omega) (by omega) (by omega) (by omega) (by omega);have okx:da (eF lv va (asx*17592186044416) pte):=wK blv bpte;generalize eF lv va (asx*17592186044416) pte=x at CE okx;unfold gx at CE;go_wp2_with fail;refine (CE.out _).mono ?_;rintro e v11 ⟨rfl,n11⟩;replace S:=S.keep hp1 n11;obtain ⟨v12,hs12,P12,l12,n12⟩:=fV v11 #[.bool false,.int .i64 0,.int .u64 0,.int .u64 0,.bool false,.int .u64 0] (fy x) 83 mR rfl (kH _ _ _ _ _ _);have HS12:Hid _:=hs12;have l6:=(Array.getElem?_eq_some_iff.1 S.h6).1;have sS:=S.d.2.size;have X:XS u1 p f k10 v12 b6 v11.heap.size a c t x:=⟨S.keep hp1 n12,P12,sS,(S.tn.n.new (Nat.le_refl _)).mono n12.size,by omega,okx⟩;clear hs12 P12 n12 l12 n11 S CE CP okx l6 sS;go_upto_region 12 with (first | ((with_reducible refine av ?_ ?_ HS12.out ?_);(exact rfl);(exact rfl)));try simp only [Act.put]
 clear HS12;generalize hb13:v11.heap.size=b13 at X ⊢;clear hb13
 as_aux_lemma=>
 go_wp2_with fail;refine (dt p f k10 8 _ X.i.d.1 (by omega) (by omega)).mono ?_;rintro e v13 ⟨o13,k13, -,rfl,dd⟩;replace X:=X.draw hp1 dd;clear dd;go_upto_if 56 with fail;go_cut [] from 57 to 63 (fun wx=>∃(x':EntM) (k':Nat),XS u1 p f k' wx b6 b13 a c t x')
 case first=>
  cases o13
  ·go_wp2_with fail;go_meet
   case rel=>exact ⟨_,_,X⟩
  ·have l13:=(Array.getElem?_eq_some_iff.1 X.h13).1;have e2:=ag X.h13 2 (v:=.int .u64 x.tag) rfl;have r2:=au X.h13 2;have ok:=X.ok;have X2:XS u1 p f k13 (v13.setCell ⟨b13,2,none⟩ (.int .u64 (IntKind.u64.wrap (x.tag+1)))) b6 b13 a c t ⟨x.valid,x.level,IntKind.u64.wrap (x.tag+1),x.asid,x.glob,x.pte⟩:=X.put hp1 2 _ rfl ⟨ok.1,aL _,ok.2.2.1,ok.2.2.2⟩;clear X;go_upto_region 14 with fail;clear l13 e2 r2;generalize v13.setCell ⟨b13,2,none⟩ (.int .u64 (IntKind.u64.wrap (x.tag+1)))=v14 at X2 ⊢;go_wp2_with fail;refine (dt p f k13 2 _ X2.i.d.1 (by omega) (by omega)).mono ?_;rintro e v15 ⟨o15,k15, -,rfl,dd⟩;replace X2:=X2.draw hp1 dd;clear dd;have l13:=(Array.getElem?_eq_some_iff.1 X2.h13).1;have e4:=ag X2.h13 4 (v:=.bool x.glob) rfl;have r4:=au X2.h13 4;have ok2:=X2.ok;have X3:XS u1 p f k15 (v15.setCell ⟨b13,4,none⟩ (.bool o15)) b6 b13 a c t ⟨x.valid,x.level,IntKind.u64.wrap (x.tag+1),x.asid,o15,x.pte⟩:=X2.put hp1 4 _ rfl ok2;clear X2;go_wp2_with fail;go_meet
   case rel=>exact ⟨_,_,X3⟩
 case rest=>
 clear X;obtain ⟨x2,k14,X⟩:=hcut;go_wp2_with fail;refine (bD p f k14 256 _ X.i.d.1 (by omega) (by omega)).mono ?_;rintro e v15 ⟨pk0,k15, -,hpk0,rfl,dd⟩;replace X:=X.draw hp1 dd;clear dd;go_wp2_with fail;refine (dt p f k15 20 _ X.i.d.1 (by omega) (by omega)).mono ?_;rintro e v16 ⟨o16,k16, -,rfl,dd⟩;replace X:=X.draw hp1 dd;clear dd;go_upto_if 67 with fail;go_cut [14] from 68 to 70 (fun s14 wx=>∃(pk:Int) (k':Nat),s14=.int .i64 pk∧(0≤pk∧pk≤256)∧XS u1 p f k' wx b6 b13 a c t x2)
 case first=>
  cases o16
  ·go_wp2_with fail;go_meet
   case rel=>exact ⟨_,_,rfl,by omega,X⟩
  ·go_wp2_with fail;refine (bD p f k16 2 _ X.i.d.1 (by omega) (by omega)).mono ?_;rintro e v17 ⟨y17,k17, -,hy17,rfl,dd⟩;replace X:=X.draw hp1 dd;clear dd;go_wp2_with fail;go_meet
   case rel=>exact ⟨_,_,rfl,by omega,X⟩
 case rest=>
 clear X;obtain ⟨pk,k17,rfl,bpk,X⟩:=hcut;rename World=>wz
 as_aux_lemma=>
 go_upto_region 18 with fail;have sz:=X.i.d.2.size;have h2z:=aw H2.out X.i.d.2 (show w.heap.size≠p by omega);have h3z:=aw H3.out X.i.d.2 (show w.heap.size+1≠p by omega);have l6:=X.i.l6;have l13:=X.l13;have HL6:Hid (∀u:World,u.heap[b6]?=some (.cells #[.int .i64 t.sets,.int .i64 t.ways,.slice a t.es.length c] 41 (0,0))→(Instr.loadAt 41 (.pointer (some ⟨b6,0,none⟩))).run Tryz.prog u=.ok (.agg #[.int .i64 t.sets,.int .i64 t.ways,.slice a t.es.length c]) u):=fun u hu=>aH (P:=Tryz.prog) (T:=41) hu Tryz.underlying41 rfl dl;have HL13:Hid (∀u:World,u.heap[b13]?=some (.cells (fy x2) 83 (0,0))→(Instr.loadAt 83 (.pointer (some ⟨b13,0,none⟩))).run Tryz.prog u=.ok (.agg (fy x2)) u):=fun u hu=>aH (P:=Tryz.prog) (T:=83) hu Tryz.underlying83 rfl mR;have nD:Below wz.heap.size wz wz.drew:=(Below.refl _ _).drew;have hF:wz.drew.heap[b6]?=some (.cells #[.int .i64 t.sets,.int .i64 t.ways,.slice a t.es.length c] 41 (0,0))∧wz.drew.heap[b13]?=some (.cells (fy x2) 83 (0,0)):=⟨X.i.h6,X.h13⟩;refine be (fun u=>u.heap[b6]?=some (.cells #[.int .i64 t.sets,.int .i64 t.ways,.slice a t.es.length c] 41 (0,0))∧u.heap[b13]?=some (.cells (fy x2) 83 (0,0))) 5 (by kernel_rfl) ?_;refine ah 0 71 (.agg #[.int .i64 t.sets,.int .i64 t.ways,.slice a t.es.length c]) rfl (by kernel_rfl) (by kernel_rfl) (by kernel_rfl) (by kernel_rfl) rfl (by kernel_rfl) (fun _ _ _ h=>h) (by kernel_rfl) (fun u hu=>aQ rfl (HL6.out u hu.1)) hF (by kernel_rfl) ?_;simp only [Act.put,List.setIfInBounds_toArray,List.set_cons_succ,List.set_cons_zero];refine ah 1 72 (.agg (fy x2)) rfl (by kernel_rfl) (by kernel_rfl) (by kernel_rfl) (by kernel_rfl) rfl (by kernel_rfl) (fun _ _ _ h=>h) (by kernel_rfl) (fun u hu=>aQ rfl (HL13.out u hu.2)) hF (by kernel_rfl) ?_;simp only [Act.put,List.setIfInBounds_toArray,List.set_cons_succ,List.set_cons_zero];refine ah 2 73 (.int .i64 pk) rfl (by kernel_rfl) (by kernel_rfl) (by kernel_rfl) (by kernel_rfl) rfl (by kernel_rfl) (fun _ _ _ h=>h) (by kernel_rfl) (fun u hu=>by kernel_rfl) hF (by kernel_rfl) ?_;simp only [Act.put,List.setIfInBounds_toArray,List.set_cons_succ,List.set_cons_zero];have h2d:wz.drew.heap[w.heap.size]?=some (.cells #[.int .i64 0,.int .i64 0,.slice none 0 0] 41 (0,0)):=h2z;have h3d:wz.drew.heap[w.heap.size+1]?=some (.cells #[.bool false,.int .i64 0,.int .u64 0,.int .u64 0,.bool false,.int .u64 0] 83 (0,0)):=h3z;obtain ⟨vT,hsT,hT,gT, -⟩:=dx h2d #[.int .i64 t.sets,.int .i64 t.ways,.slice a t.es.length c] dl rfl (eP _ _ _ _ _);have HST:Hid _:=hsT;have FT:vT.heap[b6]?=some (.cells #[.int .i64 t.sets,.int .i64 t.ways,.slice a t.es.length c] 41 (0,0))∧vT.heap[b13]?=some (.cells (fy x2) 83 (0,0)):=⟨aw hF.1 gT (by omega),aw hF.2 gT (by omega)⟩;refine bL 3 rfl (T:=41) (x:=.tmp 2) (y:=.tmp 71) (by kernel_rfl) (by kernel_rfl) (by kernel_rfl) (by kernel_rfl) (b:=w.heap.size) (off:=0) (by kernel_rfl) (by kernel_rfl) HST.out (.inr FT) ?_;obtain ⟨vU,hsU,hU,gU, -⟩:=dx (aw h3d gT (by omega)) (fy x2) mR rfl (kH _ _ _ _ _ _);have HSU:Hid _:=hsU;have FU:vU.heap[b6]?=some (.cells #[.int .i64 t.sets,.int .i64 t.ways,.slice a t.es.length c] 41 (0,0))∧vU.heap[b13]?=some (.cells (fy x2) 83 (0,0)):=⟨aw FT.1 gU (by omega),aw FT.2 gU (by omega)⟩;refine bL 4 rfl (T:=83) (x:=.tmp 3) (y:=.tmp 72) (by kernel_rfl) (by kernel_rfl) (by kernel_rfl) (by kernel_rfl) (b:=w.heap.size+1) (off:=0) (by kernel_rfl) (by kernel_rfl) HSU.out (.inr FU) ?_;refine fM 5 4 (.int .i64 pk) (w':=vU) (by kernel_rfl) rfl (by kernel_rfl) (by kernel_rfl) (by kernel_rfl) (fun _=>FU) ?_;simp only [Act.put,List.setIfInBounds_toArray,List.set_cons_succ,List.set_cons_zero];refine bT (by kernel_rfl) ?_ _;have lv2:=ba (P:=Tryz.prog) (aw hT gU (show w.heap.size≠w.heap.size+1 by omega)) Tryz.underlying41 rfl dl;have lv3:=ba (P:=Tryz.prog) hU Tryz.underlying83 rfl mR;have t0:TlbN wz.drew p a c t:=X.i.tn.keep nD;have t1:=(TlbN.mk t0.t (r:=w.heap.size) (fun z hz=>⟨by have:=HGE.out z hz;omega,(t0.n z hz).2⟩)).gb gT;have t2:=(TlbN.mk t1.t (r:=w.heap.size+1) (fun z hz=>⟨by have:=HGE.out z hz;omega,(t1.n z hz).2⟩)).gb gU;have nz:Below w.heap.size w wz.drew:=Below.step (Below.gb nW X.i.d.2 (by omega) (by omega)) nD (Nat.le_refl _);have nT:Below w.heap.size w vT:=Below.gb nz gT (Nat.le_refl _) (Array.getElem?_eq_some_iff.1 h2d).1;have nU:Below w.heap.size w vU:=Below.gb nT gU (by omega) (by have:=(Array.getElem?_eq_some_iff.1 h3d).1;have:=gT.size;omega);have okx:=X.ok;have HTT:Hid _:=t2.t;clear t0 t1 t2 FU FT HSU HST hsU hsT hT hU h2d h3d h2z h3z X;go_wp2_with fail;refine uN (V2:=.int .i64 pk) (b:=w.heap.size) (c:=w.heap.size+1) Tryz.results44 rfl rfl rfl lv2 lv3 rfl ?_;exact ⟨a,c,t,x2,pk,rfl,HTT.out,okx,bpk,nU⟩
end Go.Proofs.YthekickjjaleaaaGreat

namespace Go.Proofs.YthekickjjaleaaaGreat
open Go.RowKit
set_option linter.unusedVariables false
theorem tB:(Tryz.prog.info? 67).map (·.size)=some 4:=by kernel_rfl
theorem qC (a:Bool) (x y z:Int):(#[.bool a,.int .i64 x,.int .i64 y,.int .u64 z]:Array Value).all (·.oneCell')=true:=by simp [Value.oneCell']
end Go.Proofs.YthekickjjaleaaaGreat

namespace Go.Proofs.YthekickjjaleaaaGreat
open Go.RowKit
set_option linter.unusedVariables false
def eC (e:EntM):List Value:=[.int .i64 e.level,.int .u64 e.tag,.int .u64 e.asid,.bool e.glob,.bool e.valid,.int .u64 e.pte]
def cz (e:EntM):Value:=.agg #[.int .i64 e.level,.int .u64 e.tag,.int .u64 e.asid,.bool e.glob,.bool e.valid,.int .u64 e.pte]
def aE:List EntM→List Value
 | []=>[]
 | e::r=>eC e++aE r
theorem dR:∀es:List EntM,(aE es).length=es.length*6
 | []=>rfl
 | e::r=>by simp [aE,eC,dR r];omega
theorem jK:∀(es:List EntM) (i j:Nat) (hi:i<es.length),j<6→(aE es)[i*6+j]?=(eC es[i])[j]?
 | e::r,0,j,hi,hj=>by
  simp only [aE,List.getElem_cons_zero,Nat.zero_mul,Nat.zero_add];rw [List.getElem?_append_left (by simp [eC];exact hj)]
 | e::r,i+1,j,hi,hj=>by
  simp only [aE,List.getElem_cons_succ];rw [List.getElem?_append_right (by simp [eC];omega)];rw [show (i+1)*6+j-(eC e).length=i*6+j by simp [eC];omega];exact jK r i j (by simpa using hi) hj
theorem gn:∀(l:List EntM) (k:Nat) (e:EntM),k<l.length→aE (l.set k e)=((((((aE l).set (k*6) (.int .i64 e.level)).set (k*6+1) (.int .u64 e.tag)).set (k*6+2) (.int .u64 e.asid)).set (k*6+3) (.bool e.glob)).set (k*6+4) (.bool e.valid)).set (k*6+5) (.int .u64 e.pte)
 | x::r,0,e,h=>by simp [aE,eC]
 | x::r,k+1,e,h=>by
  have ih:=gn r k e (by simpa using h);rw [List.set_cons_succ];simp only [aE,ih];rw [show (k+1)*6=(eC x).length+k*6 by simp [eC];omega];simp only [Nat.add_assoc];rw [List.set_append_right _ _ (by simp [eC]),List.set_append_right _ _ (by omega),List.set_append_right _ _ (by omega),List.set_append_right _ _ (by omega),List.set_append_right _ _ (by omega),List.set_append_right _ _ (by omega)];simp
theorem mg {e:TypeId} {w:World} {base g n cap:Nat} {es:List EntM} (h:w.ownsRow base e 6 (.slice (some ⟨g,0,none⟩) n cap) n (aE es)) (hn:es.length=n) (k:Nat) (x:EntM) (hx:es[k]?=some x) (j:Nat) (v:Value) (hj:j<6) (hv:(eC x)[j]?=some v):
 w.cell? ⟨g,k*6+j,none⟩=some v:=by
 have hk:k<es.length:=(List.getElem?_eq_some_iff.1 hx).1;refine aB h _ _ ?_;rw [jK es k j hk hj];obtain ⟨_,rfl⟩:=List.getElem?_eq_some_iff.1 hx;exact hv
def bR (k n:Nat) (es:List EntM):List EntM:=es.take k++List.replicate (n-k) bQ
theorem go (k:Nat) (es:List EntM) (hk:k≤es.length):(bR k es.length es).length=es.length:=by
 simp [bR];omega
theorem jn (k:Nat) (es:List EntM) (x:EntM) (hx:es[k]?=some x):bR (k+1) es.length es=(bR k es.length es).set k x:=by
 obtain ⟨hk,rfl⟩:=List.getElem?_eq_some_iff.1 hx;unfold bR;apply List.ext_getElem?;intro j;rw [List.getElem?_set];by_cases hj:k=j
 ·subst hj;rw [if_pos rfl,if_pos (by simp;omega),List.getElem?_append_left (by simp;omega)];simp [hk]
 ·rw [if_neg hj];by_cases hlt:j<k
  ·rw [List.getElem?_append_left (by simp;omega),List.getElem?_append_left (by simp;omega)];simp [hlt,show j<k+1 by omega]
  ·rw [List.getElem?_append_right (by simp;omega),List.getElem?_append_right (by simp;omega)];simp only [List.length_take,List.getElem?_replicate];rw [show min (k+1) es.length=k+1 by omega,show min k es.length=k by omega];by_cases hh:j<es.length
   ·rw [if_pos (by omega),if_pos (by omega)]
   ·rw [if_neg (by omega),if_neg (by omega)]
theorem rL (k:Nat) (es:List EntM) (hx:es[k]?=some bQ):bR (k+1) es.length es=bR k es.length es:=by
 rw [jn k es bQ hx];have hk:k<es.length:=(List.getElem?_eq_some_iff.1 hx).1;apply List.ext_getElem?;intro j;rw [List.getElem?_set];by_cases hj:k=j
 ·subst hj;rw [if_pos rfl,if_pos (by rw [go _ _ (by omega)];exact hk)];unfold bR;rw [List.getElem?_append_right (by simp;omega)];simp only [List.length_take,List.getElem?_replicate];rw [if_pos (by omega)]
 ·rw [if_neg hj]
theorem ki (es:List EntM):bR es.length es.length es=es:=by
 simp [bR]
theorem kQ (n:Nat) (es:List EntM):bR 0 n es=List.replicate n bQ:=by simp [bR]
theorem gZ {B:Nat} {a w:World} {g:Nat} (h:Below B a w) (hg:B≤g) (x y z u v t:Value):Below B a ((((((w.setCell ⟨g,0,none⟩ x).setCell ⟨g,1,none⟩ y).setCell ⟨g,2,none⟩ z).setCell ⟨g,3,none⟩ u).setCell ⟨g,4,none⟩ v).setCell ⟨g,5,none⟩ t):=
 (((du h hg x y z).setCell (p:=⟨g,3,none⟩) hg u).setCell (p:=⟨g,4,none⟩) hg v).setCell (p:=⟨g,5,none⟩) hg t
theorem fB {v:World} {p:Nat} {T:TypeId} {a b c d e f:Value} (h:v.heap[p]?=some (.cells #[a,b,c,d,e,f] T (0,0))):
 (v.cell? ⟨p,0,none⟩=some a∧v.cell? ⟨p,1,none⟩=some b∧v.cell? ⟨p,2,none⟩=some c∧v.cell? ⟨p,3,none⟩=some d∧v.cell? ⟨p,4,none⟩=some e∧v.cell? ⟨p,5,none⟩=some f)∧
  (v.frozen? ⟨p,0,none⟩=false∧v.frozen? ⟨p,1,none⟩=false∧v.frozen? ⟨p,2,none⟩=false∧v.frozen? ⟨p,3,none⟩=false∧v.frozen? ⟨p,4,none⟩=false∧v.frozen? ⟨p,5,none⟩=false):=by
 simp [World.cell?,World.frozen?,h]
end Go.Proofs.YthekickjjaleaaaGreat

namespace Go.Proofs.YthekickjjaleaaaGreat
open Go.RowKit
set_option linter.unusedVariables false
theorem vh (z:EntM) (n:Nat):(madeCells (eC z).toArray (n*6)).toList=aE (List.replicate n z):=by
 apply List.ext_getElem?;intro j;by_cases hj:j<n*6
 ·have hq:j/6<(List.replicate n z).length:=by simp;omega
  have:=jK (List.replicate n z) (j/6) (j%6) hq (by omega);rw [show j/6*6+j%6=j by omega] at this;rw [this];have h6:j%6<(eC z).length:=by simp [eC];omega
  simp only [madeCells,List.getElem_replicate];rw [List.getElem?_eq_getElem h6];simp [hj,eC];rw [List.getElem?_eq_getElem (by simpa [eC] using h6)];rfl
 ·rw [List.getElem?_eq_none (by simp [madeCells];omega),List.getElem?_eq_none (by rw [dR];simp;omega)]
theorem rM (v:World) (T E:TypeId) (xs cs:Array Value) (ss:List Value) (n:Nat) (hcs:cs.toList=ss) (hn:ss.length=n*6) (hm:n≤maxLen):
 ((v.alloc (.cells cs E)).alloc (.cells xs T)).drew.heap[v.heap.size+1]?=some (.cells xs T (0,0))∧((v.alloc (.cells cs E)).alloc (.cells xs T)).drew.ownsRow v.heap.size E 6 (.slice (some ⟨v.heap.size,0,none⟩) n n) n ss∧
  Below v.heap.size v ((v.alloc (.cells cs E)).alloc (.cells xs T)).drew∧v.heap.size+1<((v.alloc (.cells cs E)).alloc (.cells xs T)).drew.heap.size:=by
 have hs:cs.size=n*6:=by rw [←hn,←hcs];simp
 have h1:=World.ownsRow_lit (e:=E) (size:=6) v cs n (Nat.le_refl v.heap.size) hm hs;rw [hcs] at h1;refine ⟨?_,ak h1 (((Below.refl _ _).alloc (Nat.le_refl _) _).drew),(((Below.refl v.heap.size v).alloc (Nat.le_refl _) _).alloc (by simp) _).drew,?_⟩
 ·have:=heap_alloc_new (v.alloc (.cells cs E)) (.cells xs T);simp only [World.size_alloc] at this;exact this
 ·show _<((v.alloc (.cells cs E)).alloc (.cells xs T)).heap.size;simp
theorem rN (v:World) (T E:TypeId) (xs cs:Array Value) (ss:List Value) (n:Nat) (hcs:cs.toList=ss) (hn:ss.length=n*6) (hm:n≤maxLen):
 ((v.alloc (.cells xs T)).alloc (.cells cs E)).drew.heap[v.heap.size]?=some (.cells xs T (0,0))∧((v.alloc (.cells xs T)).alloc (.cells cs E)).drew.ownsRow v.heap.size E 6 (.slice (some ⟨v.heap.size+1,0,none⟩) n n) n ss∧
  Below v.heap.size v ((v.alloc (.cells xs T)).alloc (.cells cs E)).drew∧v.heap.size<((v.alloc (.cells xs T)).alloc (.cells cs E)).drew.heap.size:=by
 have hs:cs.size=n*6:=by rw [←hn,←hcs];simp
 have h1:=World.ownsRow_lit (e:=E) (size:=6) (v.alloc (.cells xs T)) cs n (base:=v.heap.size) (by simp) hm hs;rw [hcs] at h1;simp only [World.size_alloc] at h1;refine ⟨?_,h1,(((Below.refl v.heap.size v).alloc (Nat.le_refl _) _).alloc (by simp) _).drew,?_⟩
 ·show ((v.alloc (.cells xs T)).alloc (.cells cs E)).heap[v.heap.size]?=_;rw [heap_alloc_old _ _ (by simp)];exact heap_alloc_new v _
 ·show _<((v.alloc (.cells xs T)).alloc (.cells cs E)).heap.size;simp;omega
theorem iO {w:World} {g n:Nat} {es:List EntM} (h:RowC w (some ⟨g,0,none⟩) n 6 (aE es)) (hn:es.length=n) (k:Nat) (x:EntM) (hx:es[k]?=some x) (j:Nat) (v:Value) (hj:j<6) (hv:(eC x)[j]?=some v):
 w.cell? ⟨g,k*6+j,none⟩=some v:=by
 have hk:k<es.length:=(List.getElem?_eq_some_iff.1 hx).1;rcases h.2 with h0 | ⟨b',off',e,_,hc⟩
 ·omega
 ·simp at e;obtain ⟨rfl,rfl⟩:=e;have:=hc (k*6+j) v (by
   rw [jK es k j hk hj];obtain ⟨_,rfl⟩:=List.getElem?_eq_some_iff.1 hx;exact hv)
  rw [Nat.zero_add] at this;exact this
theorem rO {w w':World} {r:Option Nat} (h:Below w.heap.size w w'):w.grownBy w' r:=
 ⟨h.os,h.tape,h.output,h.size,fun i hi _=>h.block i hi⟩
theorem nw (w:World) (r:Option Nat):w.grownBy w.drew r:=rO (Below.refl _ _).drew
theorem fT {B:Nat} {a w:World} {g:Nat} (h:Below B a w) (hg:B≤g) (x y z u:Value):Below B a ((((w.setCell ⟨g,0,none⟩ x).setCell ⟨g,1,none⟩ y).setCell ⟨g,2,none⟩ z).setCell ⟨g,3,none⟩ u):=
 (du h hg x y z).setCell (p:=⟨g,3,none⟩) hg u
def mJ (q:Bool) (X:Bool × Int × Int × Int):Bool × Int × Int × Int:=if q=true then X else (false,0,0,0)
def iP (q:Bool) (X:Bool × Int × Int × Int) (e:Ending):Prop:=
 e=.returned (.tuple #[.agg #[.bool (mJ q X).1,.int .i64 (mJ q X).2.1,.int .i64 (mJ q X).2.2.1,.int .u64 (mJ q X).2.2.2],.bool q])
end Go.Proofs.YthekickjjaleaaaGreat

namespace Go.Proofs.YthekickjjaleaaaGreat
open Go.RowKit
set_option linter.unusedVariables false
theorem uw (z:EntM) (n:Nat):(madeCells (gX z).toArray (n*6)).toList=aG (List.replicate n z):=by
 apply List.ext_getElem?;intro j;by_cases hj:j<n*6
 ·have hq:j/6<(List.replicate n z).length:=by simp;omega
  have:=kU (List.replicate n z) (j/6) (j%6) hq (by omega);rw [show j/6*6+j%6=j by omega] at this;rw [this];have h6:j%6<(gX z).length:=by simp [gX];omega
  simp only [madeCells,List.getElem_replicate];rw [List.getElem?_eq_getElem h6];simp [hj,gX];rw [List.getElem?_eq_getElem (by simpa [gX] using h6)];rfl
 ·rw [List.getElem?_eq_none (by simp [madeCells];omega),List.getElem?_eq_none (by rw [dC];simp;omega)]
theorem wN (n:Nat) (hn:n≤1048576):∃cs:Array Value,cs.toList=aG (List.replicate n bQ)∧∀u:World,(Instr.makeSlice 39 (.int .i64 (n:Int)) (.int .i64 (n:Int))).run Tryz.prog u=.ok (.slice (some ⟨u.heap.size,0,none⟩) n n) (u.alloc (.cells cs 83)):=by
 obtain ⟨i0,hi,hz0,hz1,hz2⟩:=info_parts Tryz.infoEnt;refine ⟨madeCells (Value.agg #[.bool false,.int .i64 0,.int .u64 0,.int .u64 0,.bool false,.int .u64 0]).cells (n*6),?_,fun u=>?_⟩
 ·exact uw bQ n
 ·have:=run_make (P:=Tryz.prog) u 39 83 i0 _ Tryz.underlying39 hi hz0 .i64 .i64 n n (by omega) (Int.le_refl _) (by rw [hz2];omega) (by omega);rw [hz1] at this;simpa using this
theorem qU {P:Program} (w:World) (dT sT ty elem:TypeId) (g n dCap:Nat) (a:Addr) (sCap:Nat) (cur:Array Value) (t:TypeId) (cs:List Value)
 (hu:P.underlying dT=some (.slice elem)) (hs:(P.info? elem).map (·.size)=some 6) (hg:w.heap[g]?=some (.cells cur t (0,0))) (hn:cs.length=n*6)
 (hsrc:∀j v,cs[j]?=some v→w.cell? (a.add j)=some v) (hfit:cs.length=cur.size) (h1:∀v∈cs,v.oneCell'=true):
 (Builtin.copy_ #[dT,sT] ty #[.slice (some ⟨g,0,none⟩) n dCap,.slice (some a) n sCap]).run P w=.ok (goInt n) (w.setRow g cs.toArray):=by
 have hl:=run_loadCells_list (P:=P) w a cs hsrc;have hst:=run_storeCells_at P g 0 t cs 0 cur w hg (by simp;omega) h1;cases hq:P.info? elem with
 | none=>simp [hq] at hs
 | some i=>
  have hi:i.size=6:=by simpa [hq] using hs
  simp [Builtin.copy_,run_underlying hu,Builtin.lenOf,Builtin.firstCells,sizeOf,typeInfo,hq,hi,←hn,hl,hst];rw [List.drop_of_length_le (by simp;omega),List.append_nil]
theorem mX {P:Program} {w:World} {ops:Array Oper} {rest:List Oper} {o:Oper} {a:Act} {Q:Exit→Act→World→Prop} (hgd:o.guard=none) (d s:Operand) (dT sT:TypeId)
 (ho:o.op=.call { callee:=.builtin .copy,args:=#[d,s],argTypes:=#[dT,sT] }) (elem:TypeId) (hu:P.underlying dT=some (.slice elem)) (hsz:(P.info? elem).map (·.size)=some 6)
 (g n dCap:Nat) (sp:Option Addr) (sCap:Nat) (hd:a.eval d=.slice (some ⟨g,0,none⟩) n dCap) (hs:a.eval s=.slice sp n sCap) (hnil:sp=none→n=0∧sCap=0) (hspot:∀q,sp=some q→q.spot=none)
 (cur:Array Value) (t:TypeId) (hg:w.heap[g]?=some (.cells cur t (0,0))) (cs:List Value) (hr:RowC w sp n 6 cs) (hfit:cur.size=n*6) (h1:∀v∈cs,v.oneCell'=true)
 (h:∀w',w'.heap[g]?=some (.cells cs.toArray t (0,0))→Below g w w'→wpList P ops Q rest (a.put o.dst (goInt n)) w'):wpList P ops Q (o::rest) a w:=by
 refine wpList_plain hgd fun K hK=>?_;cases sp with
 | none=>
  obtain ⟨rfl,rfl⟩:=hnil rfl;have hcs:cs=[]:=by have:=hr.1;simpa using this
  subst hcs;have hcur:cur=#[]:=by simpa using hfit
  subst hcur;have hrun:=run_copy_nil (P:=P) w dT sT o.type elem ⟨g,0,none⟩ 0 dCap hu (by
   cases hq:P.info? elem with
   | none=>simp [hq] at hsz
   | some i=>rfl)
  unfold Oper.wp;simp [execOp,ho,resolve,invoke,builtin,hd,hs,hrun,Result.andThen];exact hK _ _ (h w hg (Below.refl _ _))
 | some q=>
  obtain ⟨b,off,spot⟩:=q;have:=hspot _ rfl;simp only at this;subst this;have hrun:=qU (P:=P) w dT sT o.type elem g n dCap ⟨b,off,none⟩ sCap cur t cs hu hsz hg hr.1 (nl hr) (by rw [hr.1,hfit]) h1;unfold Oper.wp;simp [execOp,ho,resolve,invoke,builtin,hd,hs,hrun,Result.andThen];exact hK _ _ (h _ (setRow_heap w g _ _ t _ hg) (below_setRow (Below.refl _ _) (Nat.le_refl _) _))
theorem Tryz.sizeEnt:(Tryz.prog.info? 83).map (·.size)=some 6:=by kernel_rfl
set_option maxHeartbeats 1600000 in
theorem jV (v:Value) (t:TlbM) (w:World) (h:TlbAt w v t):
 Calls Tryz.prog 89 #[v] w fun e w'=>(∃x,e=.returned x∧TlbOwn w.heap.size w' x t)∧Below w.heap.size w w':=by
 obtain ⟨a,cap,rfl,hr,_,_,_,hl,hlc,hcm,hnil,hsp⟩:=h;obtain ⟨sets,ways,es⟩:=t;obtain ⟨n,hn⟩:∃n,es.length=n:=⟨_,rfl⟩;simp only at hr hl hlc hnil ⊢;rw [hn] at hr hl hlc hnil ⊢;have n1:=((Below.refl w.heap.size w).alloc (Nat.le_refl _) (Obj.cells #[.int .i64 sets,.int .i64 ways,.slice a n cap] 41)).alloc (by simp) (Obj.cells #[.int .i64 0,.int .i64 0,.slice none 0 0] 41);have HR1:Hid (RowC ((w.alloc (Obj.cells #[.int .i64 sets,.int .i64 ways,.slice a n cap] 41)).alloc (Obj.cells #[.int .i64 0,.int .i64 0,.slice none 0 0] 41)) a n 6 (aG es)):=hr.keep n1;have H1:Hid (((w.alloc (Obj.cells #[.int .i64 sets,.int .i64 ways,.slice a n cap] 41)).alloc (Obj.cells #[.int .i64 0,.int .i64 0,.slice none 0 0] 41)).heap[w.heap.size]?=some (.cells #[.int .i64 sets,.int .i64 ways,.slice a n cap] 41 (0,0))):=by
  show _=_;rw [heap_alloc_old _ _ (by simp)];exact heap_alloc_new w _
 have H2:Hid (((w.alloc (Obj.cells #[.int .i64 sets,.int .i64 ways,.slice a n cap] 41)).alloc (Obj.cells #[.int .i64 0,.int .i64 0,.slice none 0 0] 41)).heap[w.heap.size+1]?=some (.cells #[.int .i64 0,.int .i64 0,.slice none 0 0] 41 (0,0))):=by
  have:=heap_alloc_new (w.alloc (Obj.cells #[.int .i64 sets,.int .i64 ways,.slice a n cap] 41)) (Obj.cells #[.int .i64 0,.int .i64 0,.slice none 0 0] 41);simp only [World.size_alloc] at this;exact this
 have l1:w.heap.size+1<((w.alloc (Obj.cells #[.int .i64 sets,.int .i64 ways,.slice a n cap] 41)).alloc (Obj.cells #[.int .i64 0,.int .i64 0,.slice none 0 0] 41)).heap.size:=by simp
 have HNi:Hid (a=none→n=0∧cap=0):=hnil;have HSp:Hid (∀q,a=some q→q.spot=none):=hsp;obtain ⟨cs,hcs,hmk⟩:=wN n hl;have hcsz:cs.size=n*6:=by
  have:cs.toList.length=n*6:=by rw [hcs,dC];simp
  simpa using this
 have nV:Below ((w.alloc (Obj.cells #[.int .i64 sets,.int .i64 ways,.slice a n cap] 41)).alloc (Obj.cells #[.int .i64 0,.int .i64 0,.slice none 0 0] 41)).heap.size ((w.alloc (Obj.cells #[.int .i64 sets,.int .i64 ways,.slice a n cap] 41)).alloc (Obj.cells #[.int .i64 0,.int .i64 0,.slice none 0 0] 41)) (((w.alloc (Obj.cells #[.int .i64 sets,.int .i64 ways,.slice a n cap] 41)).alloc (Obj.cells #[.int .i64 0,.int .i64 0,.slice none 0 0] 41)).alloc (.cells cs 83)):=(Below.refl _ _).alloc (Nat.le_refl _) _;have HG:Hid ((((w.alloc (Obj.cells #[.int .i64 sets,.int .i64 ways,.slice a n cap] 41)).alloc (Obj.cells #[.int .i64 0,.int .i64 0,.slice none 0 0] 41)).alloc (.cells cs 83)).heap[w.heap.size+1+1]?=some (.cells cs 83 (0,0))):=by
  have:=heap_alloc_new ((w.alloc (Obj.cells #[.int .i64 sets,.int .i64 ways,.slice a n cap] 41)).alloc (Obj.cells #[.int .i64 0,.int .i64 0,.slice none 0 0] 41)) (.cells cs 83);simp only [World.size_alloc] at this;exact this
 have HRv:Hid (RowC (((w.alloc (Obj.cells #[.int .i64 sets,.int .i64 ways,.slice a n cap] 41)).alloc (Obj.cells #[.int .i64 0,.int .i64 0,.slice none 0 0] 41)).alloc (.cells cs 83)) a n 6 (aG es)):=HR1.out.keep nV;have K1:=ae H1 nV;have K2:=ae H2 nV;have A1:=Below.step n1 nV (Nat.le_refl _);clear hr hnil hsp hcs;go_enter Tryz.func89,Tryz.ntmps89;go_wp2_with (refine mX rfl (.tmp 8) (.tmp 10) 39 39 rfl 83 Tryz.underlying39 Tryz.sizeEnt (w.heap.size+1+1) n _ a _ rfl rfl HNi.out HSp.out cs 83 HG.out (aG es) HRv.out hcsz (jJ es) ?_;intro v3 h3 n3;have k1:=ao ((n3.block w.heap.size (by omega)).trans K1.out);have k2:=ao ((n3.block (w.heap.size+1) (by omega)).trans K2.out);obtain ⟨⟨q0,q1,q2⟩,_,_,_⟩:=k1;obtain ⟨⟨j0,j1,j2⟩,i0,i1,i2⟩:=k2;have HG3:Hid _:=h3;clear h3);have A3:Below w.heap.size w v3:=A1.trans (n3.mono (by omega));have hsz3:w.heap.size+1+1<v3.heap.size:=(Array.getElem?_eq_some_iff.1 HG3.out).1;have O3:v3.ownsRow (w.heap.size+1+1) 83 6 (.slice (some ⟨w.heap.size+1+1,0,none⟩) n n) n (aG es):=
  ⟨by rw [dC,hn],.inr ⟨_,n,(aG es).toArray,rfl,Nat.le_refl _,HG3.out,Nat.le_refl _,by unfold maxLen;omega,by simp [dC,hn],by rw [List.take_of_length_le (by simp [dC,hn])]⟩⟩
 refine bodyPost_ret (v:=.agg #[.int .i64 sets,.int .i64 ways,.slice (some ⟨w.heap.size+1+1,0,none⟩) n n]) (by simp [results,Tryz.results89,go_sem,j0,j1,j2]) rfl ⟨⟨_,rfl,_,n,by rw [hn],?_⟩,du A3 (by omega) _ _ _⟩;rw [hn];exact aX (cK O3 (gb3 v3 (w.heap.size+1) _ _ _) (by omega)) (by omega)
end Go.Proofs.YthekickjjaleaaaGreat
