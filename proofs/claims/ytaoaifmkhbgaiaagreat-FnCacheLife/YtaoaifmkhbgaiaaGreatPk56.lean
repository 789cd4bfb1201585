import Derived.Test.YtaoaifmkhbgaiaaGreatPk55
import Derived.Test.YtaoaifmkhbgaiaaGreatPk39
import Derived.Test.YtaoaifmkhbgaiaaGreatPk14
import Derived.Test.YtaoaifmkhbgaiaaGreatPk44
import Derived.Test.YtaoaifmkhbgaiaaGreatPk41
namespace Go.Proofs.YtaoaifmkhbgaiaaGreat
open Go.RowKit
set_option linter.unusedVariables false
attribute [local go_sem ↓] Go.wp_at_zero Go.wp_at_succ
structure IS (u:World) (p:Nat) (f:Nat→Int) (k:Nat) (wr:World) (b6:Nat) (a:Option Addr) (c:Nat) (t:TlbM):Prop where
 d:DrewN u p f k wr
 h6:wr.heap[b6]?=some (.cells #[.int .i64 t.sets,.int .i64 t.ways,.slice a t.es.length c] 28 (0,0))
 tn:TlbN wr p a c t
 l6:u.heap.size≤b6
theorem IS.draw {u wr v:World} {p:Nat} {f:Nat→Int} {k k' b6:Nat} {a:Option Addr} {c:Nat} {t:TlbM} (s:IS u p f k wr b6 a c t) (hp:p<u.heap.size) (d:DrewN wr p f k' v):IS u p f k' v b6 a c t:=
 ⟨s.d.trans d,av s.h6 d.2 (by have:=s.l6;omega),s.tn.gb d.2,s.l6⟩
theorem IS.keep {u wr v:World} {p:Nat} {f:Nat→Int} {k b6:Nat} {a:Option Addr} {c:Nat} {t:TlbM} (s:IS u p f k wr b6 a c t) (hp:p<u.heap.size) (hb:Below wr.heap.size wr v):IS u p f k v b6 a c t:=
 ⟨s.d.below (hb.mono s.d.2.size) hp,ab s.h6 hb (Array.getElem?_eq_some_iff.1 s.h6).1,s.tn.keep hb,s.l6⟩
structure XS (u:World) (p:Nat) (f:Nat→Int) (k:Nat) (wr:World) (b6 b13:Nat) (a:Option Addr) (c:Nat) (t:TlbM) (x:EntM):Prop where
 i:IS u p f k wr b6 a c t
 h13:wr.heap[b13]?=some (.cells (gM x) 62 (0,0))
 l13:u.heap.size≤b13
 n13:Rw wr b13 a
 ne:b6≠b13
 ok:dq x
theorem XS.draw {u wr v:World} {p:Nat} {f:Nat→Int} {k k' b6 b13:Nat} {a:Option Addr} {c:Nat} {t:TlbM} {x:EntM} (s:XS u p f k wr b6 b13 a c t x) (hp:p<u.heap.size) (d:DrewN wr p f k' v):XS u p f k' v b6 b13 a c t x:=
 ⟨s.i.draw hp d,av s.h13 d.2 (by have:=s.l13;omega),s.l13,s.n13.mono d.2.size,s.ne,s.ok⟩
theorem XS.put {u wr:World} {p:Nat} {f:Nat→Int} {k b6 b13:Nat} {a:Option Addr} {c:Nat} {t:TlbM} {x x':EntM} (s:XS u p f k wr b6 b13 a c t x) (hp:p<u.heap.size) (i:Nat) (y:Value) (he:(gM x).setIfInBounds i y=gM x') (ok:dq x'):XS u p f k (wr.setCell ⟨b13,i,none⟩ y) b6 b13 a c t x':=
 have gS:=ax (aE wr (some b13)) i y;have tk:TlbN (wr.setCell ⟨b13,i,none⟩ y) b13 a c t:=TlbN.gb ⟨s.i.tn.t,s.n13⟩ gS
 ⟨⟨s.i.d.own gS s.l13 hp,dJ s.i.h6 i y s.ne,⟨tk.t,s.i.tn.n.mono gS.size⟩,s.i.l6⟩,by rw [←he];exact da s.h13 i y,s.l13,tk.n,s.ne,ok⟩
theorem yX {P:Program} {fn:Func} {R:Ending→World→Prop} {a:Act} {w:World} {s0 s1 s2:Tmp} {T U:TypeId} {b c:Nat} {V0 V1 V2:Value} (hr:fn.results=#[ResultVar.cell s0 T,ResultVar.cell s1 U,ResultVar.tmp s2]) (h0:a.tmps[s0]?=some (.pointer (some ⟨b,0,none⟩))) (h1:a.tmps[s1]?=some (.pointer (some ⟨c,0,none⟩))) (h2:a.tmps[s2]?=some V2) (hl:(loadVar T ⟨b,0,none⟩).run P w=.ok V0 w) (hm:(loadVar U ⟨c,0,none⟩).run P w=.ok V1 w) (hd:a.defers=[]) (hR:R (.returned (.tuple #[V0,V1,V2])) w):bodyPost P fn R .ret a w:=by
 refine bodyPost_ret (v:=.tuple #[V0,V1,V2]) ?_ hd hR;simp [results,hr,h0,h1,h2,asAddr,hl,hm,Sem.run_bind]
theorem Ay {level va satp pte:Int} (hl:0≤level∧level≤2) (hp:0≤pte∧pte≤18446744073709551615):dq (et level va satp pte):=by
 refine ⟨by show -9223372036854775808≤level∧level≤9223372036854775807;omega,?_,?_,hp⟩
 ·show 0≤dt va level∧dt va level≤18446744073709551615;unfold dt;split
  ·omega
  ·split <;> omega
 ·show 0≤ay satp∧ay satp≤18446744073709551615;unfold ay;omega
set_option maxRecDepth 20000 in
set_option maxHeartbeats 12800000 in
theorem yY (a0:Option Addr) (len cap:Nat) (code:List Int) (w:World) (hB:Byt w a0 len code) (hl:len≤1048576):
 Calls Tryz.prog 22 #[.slice a0 len cap] w fun e w'=>∃(a:Option Addr) (c:Nat) (t:TlbM) (x:EntM) (pick:Int),e=.returned (.tuple #[.agg #[.int .i64 t.sets,.int .i64 t.ways,.slice a t.es.length c],.agg (gM x),.int .i64 pick])∧TlbAt w' (.agg #[.int .i64 t.sets,.int .i64 t.ways,.slice a t.es.length c]) t∧dq x∧(0≤pick∧pick≤256)∧Below w.heap.size w w':=by
 have CN:Hid (∀u,Below w.heap.size w u→Calls Tryz.prog 26 #[.slice a0 len cap] u fun e w'=>e=.returned (.pointer (some ⟨u.heap.size,0,none⟩))∧CurN w' u.heap.size (oH code (jZ code (54321+(len:Int)))) 0∧Below u.heap.size u w'):=fun u hu=>xZ a0 len cap code u (hB.keep hu) hl;generalize oH code (jZ code (54321+(len:Int)))=f at *;clear hB hl;go_enter Tryz.func22,Tryz.ntmps22;go_upto_region 1 with fail;have F:=eU w #[.int .i64 0,.int .i64 0,.slice none 0 0] #[.bool false,.int .i64 0,.int .u64 0,.int .u64 0,.bool false,.int .u64 0] 28 62;generalize (w.alloc (Obj.cells #[.int .i64 0,.int .i64 0,.slice none 0 0] 28)).alloc (Obj.cells #[.bool false,.int .i64 0,.int .u64 0,.int .u64 0,.bool false,.int .u64 0] 62)=v1 at F ⊢;obtain ⟨h2,h3,l1,n1⟩:=F;go_wp2_with fail;refine (CN.out v1 n1).mono ?_;rintro e u1 ⟨rfl,cu,nu⟩;have hp1:=cu.lt;have su:=nu.size;have H2:Hid (u1.heap[w.heap.size]?=some (.cells #[.int .i64 0,.int .i64 0,.slice none 0 0] 28 (0,0))):=ab h2 nu (by omega);have H3:Hid (u1.heap[w.heap.size+1]?=some (.cells #[.bool false,.int .i64 0,.int .u64 0,.int .u64 0,.bool false,.int .u64 0] 62 (0,0))):=ab h3 nu (by omega);have nW:Below w.heap.size w u1:=Below.step n1 nu (Nat.le_refl _);have hpl:w.heap.size+1<v1.heap.size:=by omega
 generalize hpe:v1.heap.size=p at *;clear h2 h3 n1 nu CN l1 hpe;go_wp2_with fail;refine (uC p f 0 u1 cu).mono ?_;rintro e v2 ⟨a,c,t,pb,k2,rfl,tn,hle,hge,d2⟩;obtain ⟨v3,hs3,P3,l3,n3⟩:=dI v2 #[.int .i64 0,.int .i64 0,.slice none 0 0] #[.int .i64 t.sets,.int .i64 t.ways,.slice a t.es.length c] 28 df rfl (eI _ _ _ _ _);have HS3:Hid _:=hs3;have S:IS u1 p f k2 v3 v2.heap.size a c t:=⟨d2.below (n3.mono d2.2.size) hp1,P3,tn.keep n3,d2.2.size⟩;have HGE:Hid (∀x,a=some x→u1.heap.size≤x.block):=hge;clear hs3 P3 n3 l3 tn hge d2 hle cu;go_upto_region 3 with (first | ((with_reducible refine au ?_ ?_ HS3.out ?_);(exact rfl);(exact rfl)));clear HS3;generalize hb6:v2.heap.size=b6 at S ⊢;clear hb6;go_wp2_with fail;refine (wC p f k2 _ S.d.1).mono ?_;rintro e v4 ⟨va,k4, -,bva,rfl,dd⟩;replace S:=S.draw hp1 dd;clear dd;go_wp2_with fail;refine (aX p f k4 3 _ S.d.1 (by omega) (by omega)).mono ?_;rintro e v5 ⟨lv0,k5, -,hlv0,rfl,dd⟩;replace S:=S.draw hp1 dd;clear dd;go_wp2_with fail;refine (aX p f k5 8 _ S.d.1 (by omega) (by omega)).mono ?_;rintro e v6 ⟨nn,k6, -,hnn,rfl,dd⟩;replace S:=S.draw hp1 dd;clear dd;go_wp2_with fail;refine (dp p f k6 2 _ S.d.1 (by omega) (by omega)).mono ?_;rintro e v7 ⟨user,k7, -,rfl,dd⟩;replace S:=S.draw hp1 dd;clear dd;go_wp2_with fail;refine (iQ p f k7 user _ S.d.1).mono ?_;rintro e v8 ⟨fl,k8, -,hfl,rfl,dd⟩;replace S:=S.draw hp1 dd;clear dd;go_upto_if 37 with fail;go_cut [9,11] from 38 to 44 (fun s9 s11 wx=>∃(lv pte:Int) (k':Nat),s9=.int .i64 lv∧s11=.int .u64 pte∧(0≤lv∧lv≤2)∧(0≤pte∧pte≤18446744073709551615)∧IS u1 p f k' wx b6 a c t)
 case first=>
  cases pb
  ·go_wp2_with fail;go_meet
   case rel=>exact ⟨_,_,_,rfl,rfl,by omega,by omega,S⟩
  ·go_wp2_with fail;refine (aX p f k8 2 _ S.d.1 (by omega) (by omega)).mono ?_;rintro e v9 ⟨y9,k9, -,hy9,rfl,dd⟩;replace S:=S.draw hp1 dd;clear dd;go_wp2_with fail;go_meet
   case rel=>exact ⟨_,_,_,rfl,rfl,by omega,by omega,S⟩
 case rest=>
 clear S;obtain ⟨lv,pte,k9,rfl,rfl,blv,bpte,S⟩:=hcut;go_wp2_with fail;refine (aX p f k9 3 _ S.d.1 (by omega) (by omega)).mono ?_;rintro e v10 ⟨asx,k10, -,hasx,rfl,dd⟩;replace S:=S.draw hp1 dd;clear dd;have CP:Hid (∀u,Calls Tryz.prog 50 #[.int .i64 44] u fun e w'=>e=.returned (.int .u64 17592186044416)∧w'=u):=fun u=>aZ 44 17592186044416 u (by omega) (by decide);go_wp2_with fail;refine (CP.out _).mono ?_;rintro e _ ⟨rfl,rfl⟩;have CE:Hid (∀u,Calls Tryz.prog 47 #[.int .i64 lv,.int .u64 va,.int .u64 (asx*17592186044416),.int .u64 pte] u fun e w'=>e=.returned (jd (et lv va (asx*17592186044416) pte))∧Below u.heap.size u w'):=fun u=>lV lv va (asx*17592186044416) pte u (by omega) (by omega) (by omega) (by omega) (by omega) (by omega) (by omega) (by omega);have okx:dq (et lv va (asx*17592186044416) pte):=Ay blv bpte;generalize et lv va (asx*17592186044416) pte=x at CE okx;unfold jd at CE;go_wp2_with fail;refine (CE.out _).mono ?_;rintro e v11 ⟨rfl,n11⟩;replace S:=S.keep hp1 n11;obtain ⟨v12,hs12,P12,l12,n12⟩:=dI v11 #[.bool false,.int .i64 0,.int .u64 0,.int .u64 0,.bool false,.int .u64 0] (gM x) 62 mV rfl (ke _ _ _ _ _ _);have HS12:Hid _:=hs12;have l6:=(Array.getElem?_eq_some_iff.1 S.h6).1;have sS:=S.d.2.size;have X:XS u1 p f k10 v12 b6 v11.heap.size a c t x:=⟨S.keep hp1 n12,P12,sS,(S.tn.n.new (Nat.le_refl _)).mono n12.size,by omega,okx⟩;clear hs12 P12 n12 l12 n11 S CE CP okx l6 sS;go_upto_region 12 with (first | ((with_reducible refine au ?_ ?_ HS12.out ?_);(exact rfl);(exact rfl)));try simp only [Act.put]
 clear HS12;generalize hb13:v11.heap.size=b13 at X ⊢;clear hb13
 as_aux_lemma=>
 go_wp2_with fail;refine (dp p f k10 8 _ X.i.d.1 (by omega) (by omega)).mono ?_;rintro e v13 ⟨o13,k13, -,rfl,dd⟩;replace X:=X.draw hp1 dd;clear dd;go_upto_if 56 with fail;go_cut [] from 57 to 63 (fun wx=>∃(x':EntM) (k':Nat),XS u1 p f k' wx b6 b13 a c t x')
 case first=>
  cases o13
  ·go_wp2_with fail;go_meet
   case rel=>exact ⟨_,_,X⟩
  ·have l13:=(Array.getElem?_eq_some_iff.1 X.h13).1;have e2:=ag X.h13 2 (v:=.int .u64 x.tag) rfl;have r2:=aA X.h13 2;have ok:=X.ok;have X2:XS u1 p f k13 (v13.setCell ⟨b13,2,none⟩ (.int .u64 (IntKind.u64.wrap (x.tag+1)))) b6 b13 a c t ⟨x.valid,x.level,IntKind.u64.wrap (x.tag+1),x.asid,x.glob,x.pte⟩:=X.put hp1 2 _ rfl ⟨ok.1,aR _,ok.2.2.1,ok.2.2.2⟩;clear X;go_upto_region 14 with fail;clear l13 e2 r2;generalize v13.setCell ⟨b13,2,none⟩ (.int .u64 (IntKind.u64.wrap (x.tag+1)))=v14 at X2 ⊢;go_wp2_with fail;refine (dp p f k13 2 _ X2.i.d.1 (by omega) (by omega)).mono ?_;rintro e v15 ⟨o15,k15, -,rfl,dd⟩;replace X2:=X2.draw hp1 dd;clear dd;have l13:=(Array.getElem?_eq_some_iff.1 X2.h13).1;have e4:=ag X2.h13 4 (v:=.bool x.glob) rfl;have r4:=aA X2.h13 4;have ok2:=X2.ok;have X3:XS u1 p f k15 (v15.setCell ⟨b13,4,none⟩ (.bool o15)) b6 b13 a c t ⟨x.valid,x.level,IntKind.u64.wrap (x.tag+1),x.asid,o15,x.pte⟩:=X2.put hp1 4 _ rfl ok2;clear X2;go_wp2_with fail;go_meet
   case rel=>exact ⟨_,_,X3⟩
 case rest=>
 clear X;obtain ⟨x2,k14,X⟩:=hcut;go_wp2_with fail;refine (aX p f k14 256 _ X.i.d.1 (by omega) (by omega)).mono ?_;rintro e v15 ⟨pk0,k15, -,hpk0,rfl,dd⟩;replace X:=X.draw hp1 dd;clear dd;go_wp2_with fail;refine (dp p f k15 20 _ X.i.d.1 (by omega) (by omega)).mono ?_;rintro e v16 ⟨o16,k16, -,rfl,dd⟩;replace X:=X.draw hp1 dd;clear dd;go_upto_if 67 with fail;go_cut [14] from 68 to 70 (fun s14 wx=>∃(pk:Int) (k':Nat),s14=.int .i64 pk∧(0≤pk∧pk≤256)∧XS u1 p f k' wx b6 b13 a c t x2)
 case first=>
  cases o16
  ·go_wp2_with fail;go_meet
   case rel=>exact ⟨_,_,rfl,by omega,X⟩
  ·go_wp2_with fail;refine (aX p f k16 2 _ X.i.d.1 (by omega) (by omega)).mono ?_;rintro e v17 ⟨y17,k17, -,hy17,rfl,dd⟩;replace X:=X.draw hp1 dd;clear dd;go_wp2_with fail;go_meet
   case rel=>exact ⟨_,_,rfl,by omega,X⟩
 case rest=>
 clear X;obtain ⟨pk,k17,rfl,bpk,X⟩:=hcut;rename World=>wz
 as_aux_lemma=>
 go_upto_region 18 with fail;have sz:=X.i.d.2.size;have h2z:=av H2.out X.i.d.2 (show w.heap.size≠p by omega);have h3z:=av H3.out X.i.d.2 (show w.heap.size+1≠p by omega);have l6:=X.i.l6;have l13:=X.l13;have HL6:Hid (∀u:World,u.heap[b6]?=some (.cells #[.int .i64 t.sets,.int .i64 t.ways,.slice a t.es.length c] 28 (0,0))→(Instr.loadAt 28 (.pointer (some ⟨b6,0,none⟩))).run Tryz.prog u=.ok (.agg #[.int .i64 t.sets,.int .i64 t.ways,.slice a t.es.length c]) u):=fun u hu=>aB (P:=Tryz.prog) (T:=28) hu Tryz.underlying28 rfl df;have HL13:Hid (∀u:World,u.heap[b13]?=some (.cells (gM x2) 62 (0,0))→(Instr.loadAt 62 (.pointer (some ⟨b13,0,none⟩))).run Tryz.prog u=.ok (.agg (gM x2)) u):=fun u hu=>aB (P:=Tryz.prog) (T:=62) hu Tryz.underlying62 rfl mV;have nD:Below wz.heap.size wz wz.drew:=(Below.refl _ _).drew;have hF:wz.drew.heap[b6]?=some (.cells #[.int .i64 t.sets,.int .i64 t.ways,.slice a t.es.length c] 28 (0,0))∧wz.drew.heap[b13]?=some (.cells (gM x2) 62 (0,0)):=⟨X.i.h6,X.h13⟩;refine ba (fun u=>u.heap[b6]?=some (.cells #[.int .i64 t.sets,.int .i64 t.ways,.slice a t.es.length c] 28 (0,0))∧u.heap[b13]?=some (.cells (gM x2) 62 (0,0))) 5 (by kernel_rfl) ?_;refine ah 0 71 (.agg #[.int .i64 t.sets,.int .i64 t.ways,.slice a t.es.length c]) rfl (by kernel_rfl) (by kernel_rfl) (by kernel_rfl) (by kernel_rfl) rfl (by kernel_rfl) (fun _ _ _ h=>h) (by kernel_rfl) (fun u hu=>aM rfl (HL6.out u hu.1)) hF (by kernel_rfl) ?_;simp only [Act.put,List.setIfInBounds_toArray,List.set_cons_succ,List.set_cons_zero];refine ah 1 72 (.agg (gM x2)) rfl (by kernel_rfl) (by kernel_rfl) (by kernel_rfl) (by kernel_rfl) rfl (by kernel_rfl) (fun _ _ _ h=>h) (by kernel_rfl) (fun u hu=>aM rfl (HL13.out u hu.2)) hF (by kernel_rfl) ?_;simp only [Act.put,List.setIfInBounds_toArray,List.set_cons_succ,List.set_cons_zero];refine ah 2 73 (.int .i64 pk) rfl (by kernel_rfl) (by kernel_rfl) (by kernel_rfl) (by kernel_rfl) rfl (by kernel_rfl) (fun _ _ _ h=>h) (by kernel_rfl) (fun u hu=>by kernel_rfl) hF (by kernel_rfl) ?_;simp only [Act.put,List.setIfInBounds_toArray,List.set_cons_succ,List.set_cons_zero];have h2d:wz.drew.heap[w.heap.size]?=some (.cells #[.int .i64 0,.int .i64 0,.slice none 0 0] 28 (0,0)):=h2z;have h3d:wz.drew.heap[w.heap.size+1]?=some (.cells #[.bool false,.int .i64 0,.int .u64 0,.int .u64 0,.bool false,.int .u64 0] 62 (0,0)):=h3z;obtain ⟨vT,hsT,hT,gT, -⟩:=cC h2d #[.int .i64 t.sets,.int .i64 t.ways,.slice a t.es.length c] df rfl (eI _ _ _ _ _);have HST:Hid _:=hsT;have FT:vT.heap[b6]?=some (.cells #[.int .i64 t.sets,.int .i64 t.ways,.slice a t.es.length c] 28 (0,0))∧vT.heap[b13]?=some (.cells (gM x2) 62 (0,0)):=⟨av hF.1 gT (by omega),av hF.2 gT (by omega)⟩;refine bB 3 rfl (T:=28) (x:=.tmp 2) (y:=.tmp 71) (by kernel_rfl) (by kernel_rfl) (by kernel_rfl) (by kernel_rfl) (b:=w.heap.size) (off:=0) (by kernel_rfl) (by kernel_rfl) HST.out (.inr FT) ?_;obtain ⟨vU,hsU,hU,gU, -⟩:=cC (av h3d gT (by omega)) (gM x2) mV rfl (ke _ _ _ _ _ _);have HSU:Hid _:=hsU;have FU:vU.heap[b6]?=some (.cells #[.int .i64 t.sets,.int .i64 t.ways,.slice a t.es.length c] 28 (0,0))∧vU.heap[b13]?=some (.cells (gM x2) 62 (0,0)):=⟨av FT.1 gU (by omega),av FT.2 gU (by omega)⟩;refine bB 4 rfl (T:=62) (x:=.tmp 3) (y:=.tmp 72) (by kernel_rfl) (by kernel_rfl) (by kernel_rfl) (by kernel_rfl) (b:=w.heap.size+1) (off:=0) (by kernel_rfl) (by kernel_rfl) HSU.out (.inr FU) ?_;refine ei 5 4 (.int .i64 pk) (w':=vU) (by kernel_rfl) rfl (by kernel_rfl) (by kernel_rfl) (by kernel_rfl) (fun _=>FU) ?_;simp only [Act.put,List.setIfInBounds_toArray,List.set_cons_succ,List.set_cons_zero];refine bQ (by kernel_rfl) ?_ _;have lv2:=bj (P:=Tryz.prog) (av hT gU (show w.heap.size≠w.heap.size+1 by omega)) Tryz.underlying28 rfl df;have lv3:=bj (P:=Tryz.prog) hU Tryz.underlying62 rfl mV;have t0:TlbN wz.drew p a c t:=X.i.tn.keep nD;have t1:=(TlbN.mk t0.t (r:=w.heap.size) (fun z hz=>⟨by have:=HGE.out z hz;omega,(t0.n z hz).2⟩)).gb gT;have t2:=(TlbN.mk t1.t (r:=w.heap.size+1) (fun z hz=>⟨by have:=HGE.out z hz;omega,(t1.n z hz).2⟩)).gb gU;have nz:Below w.heap.size w wz.drew:=Below.step (Below.gb nW X.i.d.2 (by omega) (by omega)) nD (Nat.le_refl _);have nT:Below w.heap.size w vT:=Below.gb nz gT (Nat.le_refl _) (Array.getElem?_eq_some_iff.1 h2d).1;have nU:Below w.heap.size w vU:=Below.gb nT gU (by omega) (by have:=(Array.getElem?_eq_some_iff.1 h3d).1;have:=gT.size;omega);have okx:=X.ok;have HTT:Hid _:=t2.t;clear t0 t1 t2 FU FT HSU HST hsU hsT hT hU h2d h3d h2z h3z X;go_wp2_with fail;refine yX (V2:=.int .i64 pk) (b:=w.heap.size) (c:=w.heap.size+1) Tryz.results22 rfl rfl rfl lv2 lv3 rfl ?_;exact ⟨a,c,t,x2,pk,rfl,HTT.out,okx,bpk,nU⟩
end Go.Proofs.YtaoaifmkhbgaiaaGreat

namespace Go.Proofs.YtaoaifmkhbgaiaaGreat
open Go.RowKit
set_option linter.unusedVariables false
def xK (base:Nat) (w:World) (e:Ending) (t:TlbM):Prop:=∃x,e=.returned (.tuple #[x,.bool true])∧TlbOwn base w x t
def xL (base:Nat) (w:World) (e:Ending) (t:TlbM):Prop:=∃x,e=.returned (.tuple #[x,.bool true])∧TlbOwn base w x t
set_option maxHeartbeats 3200000 in
theorem lk:(∀(v:Value) (t:TlbM) (x:EntM) (pick:Int) (w:World) (h:TlbAt w v t) (hx:dq x) (hp0:0≤pick) (hp1:pick≤255),Calls Tryz.prog 77 #[v,jd x,.int .i64 pick] w fun e w'=>cond (aG t false && aS x false) (xK w.heap.size w' e ⟨t.sets,t.ways,t.es.set (dL t x+fU t x pick) x⟩) (e=.returned (.tuple #[.agg #[.int .i64 0,.int .i64 0,.slice none 0 0],.bool false]))∧Below w.heap.size w w')∧
 (∀(v:Value) (t:TlbM) (x:EntM) (pick:Int) (w:World) (h:TlbAt w v t) (hx:dq x) (hp0:0≤pick) (hp1:pick≤255),Calls Tryz.prog 78 #[v,jd x,.int .i64 pick] w fun e w'=>cond (aG t true && aS x true) (xL w.heap.size w' e ⟨t.sets,t.ways,t.es.set (dL t x+fU t x pick) x⟩) (e=.returned (.tuple #[.agg #[.int .i64 0,.int .i64 0,.slice none 0 0],.bool false]))∧Below w.heap.size w w'):=by
 refine ⟨?_,?_⟩;have mL:Hid True:=trivial
 rotate_left
 have mP:Hid True:=trivial
 rotate_left
 all_goals
  intro v t x pick w h hx hp0 hp1;have HK:Hid (ex t):=TlbAt.ok h;have HT:Hid (TlbAt w v t):=h;obtain ⟨a,cap,rfl,_⟩:=h;obtain ⟨vv,lv,tg,asd,gl,pt⟩:=x;unfold jd;simp only;obtain ⟨sets,ways,es⟩:=t;simp only at *;obtain ⟨n,hn⟩:∃n,es.length=n:=⟨_,rfl⟩;have HN:Hid (es.length=n):=hn;rw [hn] at HT ⊢;have n1:=(((Below.refl w.heap.size w).alloc (Nat.le_refl _) (Obj.cells #[.int .i64 sets,.int .i64 ways,.slice a n cap] 28)).alloc (by simp) (Obj.cells #[.bool vv,.int .i64 lv,.int .u64 tg,.int .u64 asd,.bool gl,.int .u64 pt] 62)).alloc (by simp;omega) (Obj.cells #[.int .i64 0,.int .i64 0,.slice none 0 0] 28);have HT1:Hid (TlbAt (((w.alloc (Obj.cells #[.int .i64 sets,.int .i64 ways,.slice a n cap] 28)).alloc (Obj.cells #[.bool vv,.int .i64 lv,.int .u64 tg,.int .u64 asd,.bool gl,.int .u64 pt] 62)).alloc (Obj.cells #[.int .i64 0,.int .i64 0,.slice none 0 0] 28)) (.agg #[.int .i64 sets,.int .i64 ways,.slice a n cap]) ⟨sets,ways,es⟩):=HT.out.keep n1;have H2:Hid ((((w.alloc (Obj.cells #[.int .i64 sets,.int .i64 ways,.slice a n cap] 28)).alloc (Obj.cells #[.bool vv,.int .i64 lv,.int .u64 tg,.int .u64 asd,.bool gl,.int .u64 pt] 62)).alloc (Obj.cells #[.int .i64 0,.int .i64 0,.slice none 0 0] 28)).heap[w.heap.size+1]?=some (.cells #[.bool vv,.int .i64 lv,.int .u64 tg,.int .u64 asd,.bool gl,.int .u64 pt] 62 (0,0))):=by
   show _=_;rw [heap_alloc_old _ _ (by simp)];have:=heap_alloc_new (w.alloc (Obj.cells #[.int .i64 sets,.int .i64 ways,.slice a n cap] 28)) (Obj.cells #[.bool vv,.int .i64 lv,.int .u64 tg,.int .u64 asd,.bool gl,.int .u64 pt] 62);simp only [World.size_alloc] at this;exact this
  have H3:Hid ((((w.alloc (Obj.cells #[.int .i64 sets,.int .i64 ways,.slice a n cap] 28)).alloc (Obj.cells #[.bool vv,.int .i64 lv,.int .u64 tg,.int .u64 asd,.bool gl,.int .u64 pt] 62)).alloc (Obj.cells #[.int .i64 0,.int .i64 0,.slice none 0 0] 28)).heap[w.heap.size+1+1]?=some (.cells #[.int .i64 0,.int .i64 0,.slice none 0 0] 28 (0,0))):=by
   have:=heap_alloc_new ((w.alloc (Obj.cells #[.int .i64 sets,.int .i64 ways,.slice a n cap] 28)).alloc (Obj.cells #[.bool vv,.int .i64 lv,.int .u64 tg,.int .u64 asd,.bool gl,.int .u64 pt] 62)) (Obj.cells #[.int .i64 0,.int .i64 0,.slice none 0 0] 28);simp only [World.size_alloc] at this;exact this
  have l1:w.heap.size+1+1<(((w.alloc (Obj.cells #[.int .i64 sets,.int .i64 ways,.slice a n cap] 28)).alloc (Obj.cells #[.bool vv,.int .i64 lv,.int .u64 tg,.int .u64 asd,.bool gl,.int .u64 pt] 62)).alloc (Obj.cells #[.int .i64 0,.int .i64 0,.slice none 0 0] 28)).heap.size:=by simp
  clear HT hn;first
   | (replace mL:=mL;obtain ⟨qv,hqv⟩:∃q,aG ⟨sets,ways,es⟩ false=q:=⟨_,rfl⟩)
   | (replace mP:=mP;obtain ⟨qv,hqv⟩:∃q,aG ⟨sets,ways,es⟩ true=q:=⟨_,rfl⟩)
  first
   | (replace mL:=mL;obtain ⟨qg,hqg⟩:∃q,aS ⟨vv,lv,tg,asd,gl,pt⟩ false=q:=⟨_,rfl⟩)
   | (replace mP:=mP;obtain ⟨qg,hqg⟩:∃q,aS ⟨vv,lv,tg,asd,gl,pt⟩ true=q:=⟨_,rfl⟩)
  first
   | (replace mL:=mL;have HQ:Hid (aG ⟨sets,ways,es⟩ false=qv):=hqv)
   | (replace mP:=mP;have HQ:Hid (aG ⟨sets,ways,es⟩ true=qv):=hqv)
  first
   | (replace mL:=mL;have HG:Hid (aS ⟨vv,lv,tg,asd,gl,pt⟩ false=qg):=hqg)
   | (replace mP:=mP;have HG:Hid (aS ⟨vv,lv,tg,asd,gl,pt⟩ true=qg):=hqg)
  first
   | (replace mL:=mL;have HSl:Hid (∀u,Calls Tryz.prog 112 #[.agg #[.bool vv,.int .i64 lv,.int .u64 tg,.int .u64 asd,.bool gl,.int .u64 pt]] u fun e w'=>e=.returned (.tuple #[dl (if qg=true then ⟨vv,lv,tg,asd,gl,pt⟩ else cL),.bool qg])∧Below u.heap.size u w'):=fun u=>by
        have:=jx.1 ⟨vv,lv,tg,asd,gl,pt⟩ u hx
        rw [hqg] at this
        exact this)
   | (replace mP:=mP;have HSl:Hid (∀u,Calls Tryz.prog 114 #[.agg #[.bool vv,.int .i64 lv,.int .u64 tg,.int .u64 asd,.bool gl,.int .u64 pt]] u fun e w'=>e=.returned (.tuple #[dl (if qg=true then ⟨vv,lv,tg,asd,gl,pt⟩ else cL),.bool qg])∧Below u.heap.size u w'):=fun u=>by
        have:=jx.2 ⟨vv,lv,tg,asd,gl,pt⟩ u hx
        rw [hqg] at this
        exact this)
  obtain ⟨Y,hY⟩:∃Y,es.set (dL ⟨sets,ways,es⟩ ⟨vv,lv,tg,asd,gl,pt⟩+fU ⟨sets,ways,es⟩ ⟨vv,lv,tg,asd,gl,pt⟩ pick) ⟨vv,lv,tg,asd,gl,pt⟩=Y:=⟨_,rfl⟩;have HY:Hid (es.set (dL ⟨sets,ways,es⟩ ⟨vv,lv,tg,asd,gl,pt⟩+fU ⟨sets,ways,es⟩ ⟨vv,lv,tg,asd,gl,pt⟩ pick) ⟨vv,lv,tg,asd,gl,pt⟩=Y):=hY;have HYl:Hid (Y.length=n):=by show _=_;rw [←hY,List.length_set];exact HN.out
  rw [hqv,hqg,hY];clear hqv hqg hY;first
   | (replace mL:=mL;go_enter Tryz.func77,Tryz.ntmps77)
   | (replace mP:=mP;go_enter Tryz.func78,Tryz.ntmps78)
  go_wp2_with fail;generalize (((w.alloc (Obj.cells #[.int .i64 sets,.int .i64 ways,.slice a n cap] 28)).alloc (Obj.cells #[.bool vv,.int .i64 lv,.int .u64 tg,.int .u64 asd,.bool gl,.int .u64 pt] 62)).alloc (Obj.cells #[.int .i64 0,.int .i64 0,.slice none 0 0] 28))=v1 at n1 HT1 H2 H3 l1 ⊢;first
   | (replace mL:=mL;refine (eO.1 _ ⟨sets,ways,es⟩ v1 HT1.out).mono ?_)
   | (replace mP:=mP;refine (eO.2 _ ⟨sets,ways,es⟩ v1 HT1.out).mono ?_)
  rw [HQ.out];rintro e v2 ⟨hc,n2⟩;have A2:=Below.step n1 n2 (Nat.le_refl _);have K2:=ae H2 n2;have K3:=ae H3 n2;have l2:w.heap.size+1+1<v2.heap.size:=Nat.lt_of_lt_of_le l1 n2.size;clear n1 HT1 H2 H3;obtain ⟨⟨c0,c1,c2,c3,c4,c5⟩,_⟩:=gH K2.out;have l0:w.heap.size+1<v2.heap.size:=by omega
  cases qv
  ·dsimp only [cond] at hc;subst hc;first
    | (replace mL:=mL;have n3:=(Below.refl v2.heap.size v2).alloc (Nat.le_refl _) (Obj.cells #[.int .i64 0,.int .i64 0,.slice none 0 0] 106))
    | (replace mP:=mP;have n3:=(Below.refl v2.heap.size v2).alloc (Nat.le_refl _) (Obj.cells #[.int .i64 0,.int .i64 0,.slice none 0 0] 109))
   have A3:=Below.step A2 n3 (Nat.le_refl _);have J3:=ae K3 n3;first
    | (replace mL:=mL;have l3:w.heap.size+1+1<(v2.alloc (Obj.cells #[.int .i64 0,.int .i64 0,.slice none 0 0] 106)).heap.size:=by simp;omega)
    | (replace mP:=mP;have l3:w.heap.size+1+1<(v2.alloc (Obj.cells #[.int .i64 0,.int .i64 0,.slice none 0 0] 109)).heap.size:=by simp;omega)
   go_wp2_with fail;first
    | (replace mL:=mL;generalize v2.alloc (Obj.cells #[.int .i64 0,.int .i64 0,.slice none 0 0] 106)=v3 at n3 A3 J3 l3 ⊢)
    | (replace mP:=mP;generalize v2.alloc (Obj.cells #[.int .i64 0,.int .i64 0,.slice none 0 0] 109)=v3 at n3 A3 J3 l3 ⊢)
   refine (HSl.out v3).mono ?_;rintro e v4 ⟨rfl,n4⟩;have A4:=Below.step A3 n4 (Nat.le_refl _);have J4:=ae J3 n4;have l4:w.heap.size+1+1<v4.heap.size:=Nat.lt_of_lt_of_le l3 n4.size;clear n3 n4 A3 J3 c0 c1 c2 c3 c4 c5;obtain ⟨⟨d0,d1,d2⟩,e0,e1,e2⟩:=ao J4.out;cases qg;first
    | (replace mL:=mL;all_goals
         simp only [dl,cL,Bool.false_eq_true,if_false,if_true]
         go_wp2_with fail
         exact bodyPost_ret (v:=.tuple #[.agg #[.int .i64 0,.int .i64 0,.slice none 0 0],.bool false]) (by simp [results,Tryz.results77,go_sem,d0,d1,d2,l4]) rfl ⟨rfl,by first | exact (eg A4 (by omega) _ _ _).alloc (by simp;omega) _ | exact eg (A4.alloc A4.size _) (by omega) _ _ _⟩)
    | (replace mP:=mP;all_goals
         simp only [dl,cL,Bool.false_eq_true,if_false,if_true]
         go_wp2_with fail
         exact bodyPost_ret (v:=.tuple #[.agg #[.int .i64 0,.int .i64 0,.slice none 0 0],.bool false]) (by simp [results,Tryz.results78,go_sem,d0,d1,d2,l4]) rfl ⟨rfl,by first | exact (eg A4 (by omega) _ _ _).alloc (by simp;omega) _ | exact eg (A4.alloc A4.size _) (by omega) _ _ _⟩)
  ·dsimp only [cond] at hc;obtain ⟨g,rfl,ho⟩:=hc;have hg:=bI ho;obtain ⟨_,hg1,hg2⟩:=hg;simp only at hg1 hg2 ho ⊢;rw [HN.out] at ho ⊢;first
    | (replace mL:=mL;have n3:=(Below.refl v2.heap.size v2).alloc (Nat.le_refl _) (Obj.cells #[.int .i64 sets,.int .i64 ways,.slice (some ⟨g,0,none⟩) n n] 106))
    | (replace mP:=mP;have n3:=(Below.refl v2.heap.size v2).alloc (Nat.le_refl _) (Obj.cells #[.int .i64 sets,.int .i64 ways,.slice (some ⟨g,0,none⟩) n n] 109))
   first
    | (replace mL:=mL;have H3:Hid ((v2.alloc (Obj.cells #[.int .i64 sets,.int .i64 ways,.slice (some ⟨g,0,none⟩) n n] 106)).heap[v2.heap.size]?=some (.cells #[.int .i64 sets,.int .i64 ways,.slice (some ⟨g,0,none⟩) n n] 106 (0,0))):=heap_alloc_new v2 _)
    | (replace mP:=mP;have H3:Hid ((v2.alloc (Obj.cells #[.int .i64 sets,.int .i64 ways,.slice (some ⟨g,0,none⟩) n n] 109)).heap[v2.heap.size]?=some (.cells #[.int .i64 sets,.int .i64 ways,.slice (some ⟨g,0,none⟩) n n] 109 (0,0))):=heap_alloc_new v2 _)
   first
    | (replace mL:=mL;have O3:Hid ((v2.alloc (Obj.cells #[.int .i64 sets,.int .i64 ways,.slice (some ⟨g,0,none⟩) n n] 106)).ownsRow v1.heap.size 173 6 (.slice (some ⟨g,0,none⟩) n n) n (aH es)):=aj ho n3)
    | (replace mP:=mP;have O3:Hid ((v2.alloc (Obj.cells #[.int .i64 sets,.int .i64 ways,.slice (some ⟨g,0,none⟩) n n] 109)).ownsRow v1.heap.size 183 6 (.slice (some ⟨g,0,none⟩) n n) n (aH es)):=aj ho n3)
   have A3:=Below.step A2 n3 (Nat.le_refl _);have J3:=ae K3 n3;first
    | (replace mL:=mL;have l3:v2.heap.size<(v2.alloc (Obj.cells #[.int .i64 sets,.int .i64 ways,.slice (some ⟨g,0,none⟩) n n] 106)).heap.size:=by simp)
    | (replace mP:=mP;have l3:v2.heap.size<(v2.alloc (Obj.cells #[.int .i64 sets,.int .i64 ways,.slice (some ⟨g,0,none⟩) n n] 109)).heap.size:=by simp)
   clear ho;go_wp2_with fail;first
    | (replace mL:=mL;generalize v2.alloc (Obj.cells #[.int .i64 sets,.int .i64 ways,.slice (some ⟨g,0,none⟩) n n] 106)=v3 at n3 H3 O3 A3 J3 l3 ⊢)
    | (replace mP:=mP;generalize v2.alloc (Obj.cells #[.int .i64 sets,.int .i64 ways,.slice (some ⟨g,0,none⟩) n n] 109)=v3 at n3 H3 O3 A3 J3 l3 ⊢)
   refine (HSl.out v3).mono ?_;rintro e v4 ⟨rfl,n4⟩;have A4:=Below.step A3 n4 (Nat.le_refl _);have J4:=ae J3 n4;have H4:=ae H3 n4;first
    | (replace mL:=mL;have O4:Hid (v4.ownsRow v1.heap.size 173 6 (.slice (some ⟨g,0,none⟩) n n) n (aH es)):=aj O3.out n4)
    | (replace mP:=mP;have O4:Hid (v4.ownsRow v1.heap.size 183 6 (.slice (some ⟨g,0,none⟩) n n) n (aH es)):=aj O3.out n4)
   have l4:v2.heap.size<v4.heap.size:=Nat.lt_of_lt_of_le l3 n4.size;have l4':w.heap.size+1+1<v4.heap.size:=by omega
   clear n3 n4 A3 J3 H3 O3 c0 c1 c2 c3 c4 c5;cases qg
   ·obtain ⟨⟨d0,d1,d2⟩,e0,e1,e2⟩:=ao J4.out;simp only [dl,cL,Bool.false_eq_true,if_false];go_wp2_with fail;first
     | (replace mL:=mL;exact bodyPost_ret (v:=.tuple #[.agg #[.int .i64 0,.int .i64 0,.slice none 0 0],.bool false]) (by simp [results,Tryz.results77,go_sem,d0,d1,d2,l4']) rfl ⟨rfl,by first | exact (eg A4 (by omega) _ _ _).alloc (by simp;omega) _ | exact eg (A4.alloc A4.size _) (by omega) _ _ _⟩)
     | (replace mP:=mP;exact bodyPost_ret (v:=.tuple #[.agg #[.int .i64 0,.int .i64 0,.slice none 0 0],.bool false]) (by simp [results,Tryz.results78,go_sem,d0,d1,d2,l4']) rfl ⟨rfl,by first | exact (eg A4 (by omega) _ _ _).alloc (by simp;omega) _ | exact eg (A4.alloc A4.size _) (by omega) _ _ _⟩)
   ·simp only [dl,if_true];first
     | (replace mL:=mL;have n5:=(Below.refl v4.heap.size v4).alloc (Nat.le_refl _) (Obj.cells #[.int .i64 lv,.int .u64 tg,.int .u64 asd,.bool gl,.bool vv,.int .u64 pt] 173))
     | (replace mP:=mP;have n5:=(Below.refl v4.heap.size v4).alloc (Nat.le_refl _) (Obj.cells #[.int .i64 lv,.int .u64 tg,.int .u64 asd,.bool gl,.bool vv,.int .u64 pt] 183))
    have A5:=Below.step A4 n5 (Nat.le_refl _);have J5:=ae J4 n5;have H5:=ae H4 n5;first
     | (replace mL:=mL;have O5:Hid ((v4.alloc (Obj.cells #[.int .i64 lv,.int .u64 tg,.int .u64 asd,.bool gl,.bool vv,.int .u64 pt] 173)).ownsRow v1.heap.size 173 6 (.slice (some ⟨g,0,none⟩) n n) n (aH es)):=aj O4.out n5)
     | (replace mP:=mP;have O5:Hid ((v4.alloc (Obj.cells #[.int .i64 lv,.int .u64 tg,.int .u64 asd,.bool gl,.bool vv,.int .u64 pt] 183)).ownsRow v1.heap.size 183 6 (.slice (some ⟨g,0,none⟩) n n) n (aH es)):=aj O4.out n5)
    first
     | (replace mL:=mL;have l5:v4.heap.size<(v4.alloc (Obj.cells #[.int .i64 lv,.int .u64 tg,.int .u64 asd,.bool gl,.bool vv,.int .u64 pt] 173)).heap.size:=by simp)
     | (replace mP:=mP;have l5:v4.heap.size<(v4.alloc (Obj.cells #[.int .i64 lv,.int .u64 tg,.int .u64 asd,.bool gl,.bool vv,.int .u64 pt] 183)).heap.size:=by simp)
    clear n5;go_wp2_with fail;first
     | (replace mL:=mL;generalize v4.alloc (Obj.cells #[.int .i64 lv,.int .u64 tg,.int .u64 asd,.bool gl,.bool vv,.int .u64 pt] 173)=v5 at A5 J5 H5 O5 l5 ⊢)
     | (replace mP:=mP;generalize v4.alloc (Obj.cells #[.int .i64 lv,.int .u64 tg,.int .u64 asd,.bool gl,.bool vv,.int .u64 pt] 183)=v5 at A5 J5 H5 O5 l5 ⊢)
    obtain ⟨⟨p0,p1,p2⟩,_,_,_⟩:=ao H5.out;have hsh:=ft HQ.out;simp only at hsh;rw [HN.out] at hsh;first
     | (replace mL:=mL;refine (jy.1 v2.heap.size 0 g n v1.heap.size ⟨sets,ways,es⟩ ⟨vv,lv,tg,asd,gl,pt⟩ pick v5 HN.out (by rw [←HN.out];exact HK.out.2.2.2) hsh.1 hsh.2.1 hsh.2.2.1 hsh.2.2.2 (by omega) (by omega) p0 p1 p2 O5.out hx.2.1.1 hx.2.1.2 hp0 hp1).mono ?_)
     | (replace mP:=mP;refine (jy.2 v2.heap.size 0 g n v1.heap.size ⟨sets,ways,es⟩ ⟨vv,lv,tg,asd,gl,pt⟩ pick v5 HN.out (by rw [←HN.out];exact HK.out.2.2.2) hsh.1 hsh.2.1 hsh.2.2.1 hsh.2.2.2 (by omega) (by omega) p0 p1 p2 O5.out hx.2.1.1 hx.2.1.2 hp0 hp1).mono ?_)
    rintro e v6 ⟨rfl,o6,m6⟩;simp only at o6;rw [HY.out] at o6;first
     | (replace mL:=mL;have O6:Hid (v6.ownsRow v1.heap.size 173 6 (.slice (some ⟨g,0,none⟩) n n) n (aH Y)):=o6)
     | (replace mP:=mP;have O6:Hid (v6.ownsRow v1.heap.size 183 6 (.slice (some ⟨g,0,none⟩) n n) n (aH Y)):=o6)
    first
     | (replace mL:=mL;have H6:Hid (v6.heap[v2.heap.size]?=some (.cells #[.int .i64 sets,.int .i64 ways,.slice (some ⟨g,0,none⟩) n n] 106 (0,0))):=av H5.out m6 (by omega))
     | (replace mP:=mP;have H6:Hid (v6.heap[v2.heap.size]?=some (.cells #[.int .i64 sets,.int .i64 ways,.slice (some ⟨g,0,none⟩) n n] 109 (0,0))):=av H5.out m6 (by omega))
    have J6:Hid (v6.heap[w.heap.size+1+1]?=some (.cells #[.int .i64 0,.int .i64 0,.slice none 0 0] 28 (0,0))):=av J5.out m6 (by omega);have l6:v5.heap.size≤v6.heap.size:=m6.size;have A6:Below w.heap.size w v6:=A5.grown m6 A5.size (fun k hk=>by cases hk;omega);clear o6 m6 p0 p1 p2 H5 J5 O5 A5;obtain ⟨⟨p0,p1,p2⟩,_,_,_⟩:=ao H6.out;go_wp2_with fail;first
     | (replace mL:=mL;refine (jl.1 v2.heap.size 0 g n ⟨sets,ways,Y⟩ v6 HYl.out (by rw [←HN.out];exact HK.out.2.2.2) (by omega) (by omega) p0 p1 p2 (en O6.out)).mono ?_)
     | (replace mP:=mP;refine (jl.2 v2.heap.size 0 g n ⟨sets,ways,Y⟩ v6 HYl.out (by rw [←HN.out];exact HK.out.2.2.2) (by omega) (by omega) p0 p1 p2 (en O6.out)).mono ?_)
    rintro e v7 ⟨⟨y,rfl,gy,cy,rfl,oy⟩,n7⟩;simp only at oy ⊢;have J7:=ae J6 n7;have A7:=Below.step A6 n7 (Nat.le_refl _);have gy1:=(bI oy).2.1;simp only at gy1;obtain ⟨⟨d0,d1,d2⟩,e0,e1,e2⟩:=ao J7.out;go_wp2_with fail;first
     | (replace mL:=mL;exact bodyPost_ret (v:=.tuple #[.agg #[.int .i64 sets,.int .i64 ways,.slice (some ⟨gy,0,none⟩) Y.length cy],.bool true]) (by simp [results,Tryz.results77,go_sem,d0,d1,d2]) rfl ⟨⟨_,rfl,gy,cy,rfl,aT (bZ oy (gb3 v7 (w.heap.size+1+1) _ _ _) (by omega)) (by omega)⟩,eg A7 (by omega) _ _ _⟩)
     | (replace mP:=mP;exact bodyPost_ret (v:=.tuple #[.agg #[.int .i64 sets,.int .i64 ways,.slice (some ⟨gy,0,none⟩) Y.length cy],.bool true]) (by simp [results,Tryz.results78,go_sem,d0,d1,d2]) rfl ⟨⟨_,rfl,gy,cy,rfl,aT (bZ oy (gb3 v7 (w.heap.size+1+1) _ _ _) (by omega)) (by omega)⟩,eg A7 (by omega) _ _ _⟩)
end Go.Proofs.YtaoaifmkhbgaiaaGreat
