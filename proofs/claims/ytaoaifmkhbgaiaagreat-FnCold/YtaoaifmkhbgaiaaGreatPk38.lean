import Derived.Test.YtaoaifmkhbgaiaaGreatPk37
import Derived.Test.YtaoaifmkhbgaiaaGreatPk15
import Derived.Test.YtaoaifmkhbgaiaaGreatPk11
import Derived.Deep.CutRange
import Derived.Test.YtaoaifmkhbgaiaaGreatPk26
import Derived.Test.YtaoaifmkhbgaiaaGreatPk16
import Derived.Test.YtaoaifmkhbgaiaaGreatPk18
import Derived.Test.YtaoaifmkhbgaiaaGreatPk35
namespace Go.Proofs.YtaoaifmkhbgaiaaGreat
open Go.RowKit
set_option linter.unusedVariables false
attribute [local go_sem ↓] Go.wp_at_zero Go.wp_at_succ
theorem wI (zs:List Int):∀u∈fN zs,u.oneCell'=true:=by
 intro u hu;simp only [fN,List.mem_map] at hu;obtain ⟨z,_,rfl⟩:=hu;rfl
theorem DecEnd.above {w v:World} {hb:Nat} {q:PtrM} {h:HartM} (d:DecEnd w v hb q h):∀x,some x∈aQ q→w.heap.size+1≤x.block:=by
 intro x hx;have:=d.low;simp only [aQ,List.mem_cons,List.not_mem_nil,or_false] at hx;rcases hx with hx | hx | hx | hx | hx
 ·have:=(gj d.mem x hx.symm).1;omega
 ·have:=(gj d.regs x hx.symm).1;omega
 ·exact (d.ks.ptrs x (.inl hx.symm)).1
 ·exact (d.ks.ptrs x (.inr (.inl hx.symm))).1
 ·exact (d.ks.ptrs x (.inr (.inr hx.symm))).1
theorem qY {e:TypeId} {size base n c:Nat} {w:World} {a:Option Addr} {cs:List Value} (h:w.ownsRow base e size (.slice a n c) n cs) (hn:0<n):∃g,a=some ⟨g,0,none⟩:=by
 rcases h.2 with ⟨_,h2⟩ | ⟨g,cap,cur,h1,_⟩
 ·omega
 ·simp only [Value.slice.injEq] at h1;exact ⟨g,h1.1⟩
theorem DecEnd.hart {w v:World} {hb:Nat} {q:PtrM} {h:HartM} (d:DecEnd w v hb q h) (hk:kOk h.k) (hm:0<h.mem.length) (hr:0<h.regs.length):HartIn v q h∧∀x,some x∈aQ q→w.heap.size≤x.block:=by
 obtain ⟨g1,e1⟩:=qY d.mem hm;obtain ⟨g2,e2⟩:=qY d.regs hr;have om:=d.mem;have og:=d.regs;rw [e1] at om;rw [e2] at og;have f1:=OwnC.facts om;have f2:=OwnC.facts og;refine ⟨⟨?_,?_,en d.regs,?_,?_,d.ks.at hk,?_⟩,fun x hx=>by have:=d.above x hx;omega⟩
 ·rw [e1];exact OwnB.byt (e:=5) (base:=hb+1) om (dv d.memb)
 ·simp only [maxLen] at f1;omega
 ·simp only [maxLen] at f2;omega
 ·rw [e2];exact ⟨fun h0=>(by cases h0),fun x hx=>(by cases hx;rfl)⟩
 ·intro x hx;simp only [aQ,List.mem_cons,List.not_mem_nil,or_false] at hx;rcases hx with hx | hx | hx | hx | hx
  ·exact (gj d.mem x hx.symm).2
  ·exact (gj d.regs x hx.symm).2
  ·exact (d.ks.ptrs x (.inl hx.symm)).2
  ·exact (d.ks.ptrs x (.inr (.inl hx.symm))).2
  ·exact (d.ks.ptrs x (.inr (.inr hx.symm))).2
set_option maxRecDepth 20000 in
set_option maxHeartbeats 1200000 in
theorem z8 (a:Option Addr) (len cap:Nat) (zs:List Int) (w:World) (hB:Byt w a len zs) (hl:len≤1048576) (v:World) (hb size n i:Nat) (q:PtrM) (h:HartM) (u5 u7 u9 u10 u11 u12 u15 u16 u17 u18 u19 u20 u21 u22 u23 u24 u25 u26 u27 u28 u29 u30 u31 u32 u33 u34 u35 u36 u37 u38 u39 u40 u41 u42 u43 u44 u45 u46 u47 u48 u49 u50 u51 u52 u53 u54 u55 u56 u57 u58 u59 u60 u61 u62 u63 u64 u65 u66 u67 u68 u69 u70 u71 u72 u73 u74 u75 u76 u77 u78 u79 u80 u81 u82 u83 u84 u85 u86 u87 u88 u89 u90 u91 u92 u93 u94 u95 u96 u97 u98 u99 u100 u101 u102 u103 u104 u105 u106 u107 u108 u109 u110 u111 u112 u113 u114 u115 u116 u117 u118 u119 u120 u121 u122 u123 u124 u125 u126 u127 u128 u129 u130 u131 u132 u133 u134 u135 u136 u137 u138 u139 u140 u141 u142 u143 u144 u145 u146 u147:Value) (hE:DecEnd w v hb q h) (hn:n≤20000) (hi:i≤65878) (hko:kOk h.k) (hml:0<h.mem.length) (hrl:0<h.regs.length) (ps:List Int) (hps:ps=((List.range n).map fun j=>atM zs (i+j)))
 (K:Act→World→Prop) (hK:∀aa ww,(dn 19 (eF Tryz.f15)).wp Tryz.prog (bodyPost Tryz.prog Tryz.f15 (mN w h ps)) aa ww→K aa ww):
 (eo (dn 18 (eF Tryz.f15))).wp Tryz.prog (Exit.then K (bodyPost Tryz.prog Tryz.f15 (mN w h ps))) ⟨#[.slice a len cap,undef,.pointer (some ⟨w.heap.size,0,none⟩),.pointer (some ⟨hb,0,none⟩),.int .i64 (size:Nat),u5,.int .i64 (n:Nat),u7,.int .i64 (i:Nat),u9,u10,u11,u12,undef,undef,u15,u16,u17,u18,u19,u20,u21,u22,u23,u24,u25,u26,u27,u28,u29,u30,u31,u32,u33,u34,u35,u36,u37,u38,u39,u40,u41,u42,u43,u44,u45,u46,u47,u48,u49,u50,u51,u52,u53,u54,u55,u56,u57,u58,u59,u60,u61,u62,u63,u64,u65,u66,u67,u68,u69,u70,u71,u72,u73,u74,u75,u76,u77,u78,u79,u80,u81,u82,u83,u84,u85,u86,u87,u88,u89,u90,u91,u92,u93,u94,u95,u96,u97,u98,u99,u100,u101,u102,u103,u104,u105,u106,u107,u108,u109,u110,u111,u112,u113,u114,u115,u116,u117,u118,u119,u120,u121,u122,u123,u124,u125,u126,u127,u128,u129,u130,u131,u132,u133,u134,u135,u136,u137,u138,u139,u140,u141,u142,u143,u144,u145,u146,u147,undef,undef,undef,undef,undef,undef,undef,undef,undef,undef,undef,undef,undef,undef,undef,undef,undef,undef],[]⟩ v:=by
 obtain ⟨Q,hQ⟩:∃Q,bodyPost Tryz.prog Tryz.f15 (mN w h ps)=Q:=⟨_,rfl⟩;rw [hQ] at hK ⊢;have HQ:Hid _:=hQ;clear hQ;simp only [eo,dn,eF,Tryz.f15,Option.getD] at hK ⊢;have HQp:Hid (∀x (a:Act) d z w,Q (.panic x) (a.put d z) w→Q (.panic x) a w):=by
  show ∀x (a:Act) d z w,Q (.panic x) (a.put d z) w→Q (.panic x) a w;rw [←HQ.out];exact fun _ _ d _ _ h=>by cases d <;> exact h
 have HE:Hid _:=hE;have HPs:Hid _:=hps;have HKo:Hid _:=hko;have HB:Hid _:=hB;have HAt:Hid (∀(i:Nat) (u:World),i≤1073741824→Below w.heap.size w u→Calls Tryz.prog 63 #[.slice a len cap,.int .i64 i] u fun e w'=>e=.returned (.int .i64 (atM zs i))∧w'=u):=fun i u hi hu=>pr a len cap zs i u (Byt.keep HB.out hu) hl (by omega);clear hB hps hko hE;have hlo:=HE.out.low;have hlt:hb<v.heap.size:=(Array.getElem?_eq_some_iff.1 HE.out.box).1;have hHs:=ez q h;have HLv:Hid ((Instr.loadAt 48 (.pointer (some ⟨hb,0,none⟩))).run Tryz.prog v=.ok (.agg #[.slice q.am h.mem.length q.cm,.slice q.ar h.regs.length q.cr,.int .u64 h.pc,.int .i64 h.mode,.bool h.sum,.bool h.mxr,.int .u64 h.satp,.int .u64 h.tvec,.int .u64 h.epc,.int .i64 h.emode,.int .i64 h.cause,.int .u64 h.tval,.int .i64 h.k.i.sets,.int .i64 h.k.i.ways,.slice q.a1 h.k.i.es.length q.c1,.int .i64 h.k.d.sets,.int .i64 h.k.d.ways,.slice q.a2 h.k.d.es.length q.c2,.int .i64 h.k.p.sets,.int .i64 h.k.p.ways,.slice q.a3 h.k.p.es.length q.c3]) v):=aB (P:=Tryz.prog) (T:=48) HE.out.box Tryz.underlying48 rfl (by rw [hHs];exact fW);have a9:=di v fG 51;have hS9:=qD q none 0 h [];have HS9:Hid _:=bO (P:=Tryz.prog) (T:=51) (V:=dg q none 0 h []) a9.1 (by rw [hS9];exact pF) (by rw [hS9,iP]) (oo _ _ _ _ _);have HB9:Hid _:=bs (V:=dg q none 0 h []) a9.1 (by rw [hS9,iP]);have n9:=bf (Nat.le_refl v.heap.size) (dg q none 0 h []).toList 0 _ a9.2.2;have s9:((v.alloc (Obj.cells fG 51)).setCells v.heap.size 0 (dg q none 0 h []).toList).heap.size=v.heap.size+1:=by rw [dy,a9.2.1]
 have HAg:Hid (dg q none 0 h []=#[.slice q.am h.mem.length q.cm,.slice q.ar h.regs.length q.cr,.int .u64 h.pc,.int .i64 h.mode,.bool h.sum,.bool h.mxr,.int .u64 h.satp,.int .u64 h.tvec,.int .u64 h.epc,.int .i64 h.emode,.int .i64 h.cause,.int .u64 h.tval,.int .i64 h.k.i.sets,.int .i64 h.k.i.ways,.slice q.a1 h.k.i.es.length q.c1,.int .i64 h.k.d.sets,.int .i64 h.k.d.ways,.slice q.a2 h.k.d.es.length q.c2,.int .i64 h.k.p.sets,.int .i64 h.k.p.ways,.slice q.a3 h.k.p.es.length q.c3,.slice none 0 0]):=rfl;clear a9;go_upto_region 39 with (first
  | ((with_reducible refine az ?_ HLv.out ?_);(exact rfl))
  | ((with_reducible refine au ?_ ?_ HS9.out ?_);(exact rfl);(exact rfl)))
 have hw9:=Below.step HE.out.below n9 (Nat.le_refl _);have HE9:Hid (DecEnd w ((v.alloc (Obj.cells fG 51)).setCells v.heap.size 0 (dg q none 0 h []).toList) hb q h):=
  ⟨ab HE.out.box n9 hlt,ab HE.out.res n9 (by omega),HE.out.low,aj HE.out.mem n9,HE.out.memb,aj HE.out.regs n9,HE.out.ks.keep n9,hw9⟩
 generalize (v.alloc (Obj.cells fG 51)).setCells v.heap.size 0 (dg q none 0 h []).toList=v9 at HB9 s9 hw9 HE9 ⊢;clear HS9 HLv n9 HAg HE;generalize hsb:v.heap.size=sb at HB9 s9 hlt ⊢;clear hsb;go_wp2_with fail;go_loopw [14] (fun kv wr=>∃(k:Nat) (pa:Option Addr) (pc:Nat),k≤n∧kv=.int .i64 k∧v9.grownBy wr (some sb)∧wr.heap[sb]?=some (.cells (dg q pa pc h ((List.range k).map fun j=>atM zs (i+j))) 51 (0,0))∧wr.ownsRow (sb+1) 2 1 (.slice pa k pc) k (fN ((List.range k).map fun j=>atM zs (i+j)))) (fun kv _=>n-(intOf kv).toNat)
 case atStart=>exact ⟨0,none,0,Nat.zero_le _,rfl,aE _ _,HB9.out,World.ownsRow_nil _ _ _ _⟩
 case round=>
  obtain ⟨k,pa,pc,hk,rfl,hG,hBx,hO⟩:=hrel;have HG:Hid _:=hG;have HBx:Hid _:=hBx;have HO:Hid _:=hO;have hgs:=hG.size;have c21:(dg q pa pc h ((List.range k).map fun j=>atM zs (i+j)))[21]?=some (.slice pa k pc):=by
   show some (Value.slice pa ((List.range k).map fun j=>atM zs (i+j)).length pc)=_;simp
  have hwr:Below w.heap.size w wr:=hw9.trans ⟨hG.os,hG.tape,hG.output,hG.size,fun j hj=>hG.block j (by omega) (by simp;omega)⟩;clear hG hBx hO;by_cases hkn:k<n
  ·go_upto_region 42 with fail;obtain ⟨z,hz⟩:∃z,atM zs (i+k)=z:=⟨_,rfl⟩;have HZ:Hid _:=hz;clear hz;have HL1:Hid (∀u:World,u.heap[sb]?=some (.cells (dg q pa pc h ((List.range k).map fun j=>atM zs (i+j))) 51 (0,0))→(Instr.loadAt 49 (.pointer (some ⟨sb,21,none⟩))).run Tryz.prog u=.ok (.slice pa k pc) u):=fun u hu=>by
    have h1:=ag hu 21 c21;go_simp
   have HBo:Hid (∀(u:World),Below (sb+1) wr u→u.heap[sb]?=some (.cells (dg q pa pc h ((List.range k).map fun j=>atM zs (i+j))) 51 (0,0))):=fun u hu=>(hu.block sb (by omega)).trans HBx.out;have HEq:Hid (∀pa' pc',dg q pa' pc' h ((List.range (k+1)).map fun j=>atM zs (i+j))=(dg q pa pc h ((List.range k).map fun j=>atM zs (i+j))).setIfInBounds 21 (.slice pa' ((List.range (k+1)).map fun j=>atM zs (i+j)).length pc')):=fun pa' pc'=>rfl;generalize dg q pa pc h ((List.range k).map fun j=>atM zs (i+j))=BX at HL1 HBo c21 HEq;have hF:wr.drew.heap[sb]?=some (.cells BX 51 (0,0)):=HBo.out wr (Below.refl _ _);refine ba (fun u=>u.heap[sb]?=some (.cells BX 51 (0,0))) 10 (by kernel_rfl) ?_;refine ah 0 155 (.pointer (some ⟨sb,21,none⟩)) rfl (by kernel_rfl) (by kernel_rfl) (by kernel_rfl) (by kernel_rfl) rfl (by kernel_rfl) (fun _ _ _ h=>HQp.out _ _ _ _ _ h) (by kernel_rfl) (fun u hu=>by kernel_rfl) hF (by kernel_rfl) ?_;simp only [Act.put,List.setIfInBounds_toArray,List.set_cons_succ,List.set_cons_zero];refine ah 1 156 (.slice pa k pc) rfl (by kernel_rfl) (by kernel_rfl) (by kernel_rfl) (by kernel_rfl) rfl (by kernel_rfl) (fun _ _ _ h=>HQp.out _ _ _ _ _ h) (by kernel_rfl) (fun u hu=>aM rfl (HL1.out u hu)) hF (by kernel_rfl) ?_;simp only [Act.put,List.setIfInBounds_toArray,List.set_cons_succ,List.set_cons_zero];refine ah 2 157 (.slice a len cap) rfl (by kernel_rfl) (by kernel_rfl) (by kernel_rfl) (by kernel_rfl) rfl (by kernel_rfl) (fun _ _ _ h=>HQp.out _ _ _ _ _ h) (by kernel_rfl) (fun u hu=>by kernel_rfl) hF (by kernel_rfl) ?_;simp only [Act.put,List.setIfInBounds_toArray,List.set_cons_succ,List.set_cons_zero];refine ah 3 158 (.int .i64 (i:Nat)) rfl (by kernel_rfl) (by kernel_rfl) (by kernel_rfl) (by kernel_rfl) rfl (by kernel_rfl) (fun _ _ _ h=>HQp.out _ _ _ _ _ h) (by kernel_rfl) (fun u hu=>by kernel_rfl) hF (by kernel_rfl) ?_;simp only [Act.put,List.setIfInBounds_toArray,List.set_cons_succ,List.set_cons_zero];refine ah 4 159 (.int .i64 (k:Nat)) rfl (by kernel_rfl) (by kernel_rfl) (by kernel_rfl) (by kernel_rfl) rfl (by kernel_rfl) (fun _ _ _ h=>HQp.out _ _ _ _ _ h) (by kernel_rfl) (fun u hu=>by kernel_rfl) hF (by kernel_rfl) ?_;simp only [Act.put,List.setIfInBounds_toArray,List.set_cons_succ,List.set_cons_zero];refine ah 5 160 (.int .i64 ((i+k:Nat):Int)) rfl (by kernel_rfl) (by kernel_rfl) (by kernel_rfl) (by kernel_rfl) rfl (by kernel_rfl) (fun _ _ _ h=>HQp.out _ _ _ _ _ h) (by kernel_rfl) (fun u hu=>(by go_simp;try exact (IntKind.wrap_i64 _).trans (by omega))) hF (by kernel_rfl) ?_;simp only [Act.put,List.setIfInBounds_toArray,List.set_cons_succ,List.set_cons_zero];refine be 6 161 (by kernel_rfl) rfl (by kernel_rfl) (by kernel_rfl) (f:=63) (args:=#[.slice a len cap,.int .i64 ((i+k:Nat):Int)]) (by kernel_rfl) ?_;refine (HAt.out (i+k) wr.drew (by omega) hwr.drew).mono ?_;rintro e v' ⟨rfl,hv'⟩;rw [hv',HZ.out];clear hv' v';refine ⟨_,rfl,fun _=>hF,?_⟩;simp only [Act.put,List.setIfInBounds_toArray,List.set_cons_succ,List.set_cons_zero];have m7:=(Below.refl wr.drew.heap.size wr.drew).alloc (Nat.le_refl _) (Obj.cells #[.int .i64 z] 2);have m67:Below wr.heap.size wr (wr.drew.alloc (Obj.cells #[.int .i64 z] 2)):=Below.step (Below.refl _ _).drew m7 (Nat.le_refl _);have hs67:sb+1≤wr.heap.size:=by omega
   refine ei 7 162 (.slice (some ⟨wr.drew.heap.size,0,none⟩) 1 1) (w':=wr.drew.alloc (Obj.cells #[.int .i64 z] 2)) (by kernel_rfl) rfl (by kernel_rfl) (by kernel_rfl) (by go_simp) (fun _=>HBo.out _ (m67.mono hs67)) ?_;simp only [Act.put,List.setIfInBounds_toArray,List.set_cons_succ,List.set_cons_zero];have O7:=aj HO.out m67;have W7:RowC (wr.drew.alloc (Obj.cells #[.int .i64 z] 2)) (some ⟨wr.drew.heap.size,0,none⟩) 1 1 (fN [z]):=(OwnC.new 2 1 wr.drew (fN [z]) 1 (by rfl) (by decide)).row;have s7:=m67.size;refine qr 8 163 (by kernel_rfl) rfl (by kernel_rfl) (by kernel_rfl) (.tmp 156) (.tmp 162) 49 (by kernel_rfl) 2 Tryz.underlying49 (.int .i64 0) 1 8 Tryz.infoI rfl (by decide) (sb+1) k _ (fN ((List.range k).map fun j=>atM zs (i+j))) (by kernel_rfl) O7 wr.drew.heap.size 0 1 1 (fN [z]) (by kernel_rfl) (by omega) W7 (wI _) (by omega) (by omega) (by omega) (sb+1) _ (Below.refl _ _) (Nat.le_refl _) ?_;intro g8 c8 v8 o8 m8;have B8:=HBo.out v8 ((m67.mono hs67).trans m8);refine ⟨fun _=>B8,?_⟩;simp only [Act.put,List.setIfInBounds_toArray,List.set_cons_succ,List.set_cons_zero];refine dD 9 164 (.pointer (some ⟨sb,21,none⟩)) rfl (by kernel_rfl) (by kernel_rfl) (by kernel_rfl) (by kernel_rfl) rfl (fun _ _ _ h=>HQp.out _ _ _ _ _ h) (by kernel_rfl) (fun u=>by kernel_rfl) (.inr B8) (by kernel_rfl) ?_;simp only [Act.put,List.setIfInBounds_toArray,List.set_cons_succ,List.set_cons_zero];have HSt:Hid ((Instr.storeAt 49 (.pointer (some ⟨sb,21,none⟩)) (.slice (some ⟨g8,0,none⟩) (k+1) c8)).run Tryz.prog v8=.ok () (v8.setCell ⟨sb,21,none⟩ (.slice (some ⟨g8,0,none⟩) (k+1) c8))):=by
    have h1:=ag B8 21 c21;have h2:=aA B8 21;show _=_;go_simp
   refine bB 10 rfl (T:=49) (x:=.tmp 164) (y:=.tmp 163) (by kernel_rfl) (by kernel_rfl) (by kernel_rfl) (by kernel_rfl) (b:=sb) (off:=21) (by kernel_rfl) (by kernel_rfl) HSt.out (.inl (by kernel_rfl)) ?_;refine bQ (by kernel_rfl) ?_ _;go_wp2_with fail;have hg8:sb+1≤g8:=(gj o8 ⟨g8,0,none⟩ rfl).1;refine ⟨⟨k+1,some ⟨g8,0,none⟩,c8,by omega,by go_num,?_,?_,?_⟩,?_⟩
   ·refine ax ?_ 21 _;have hG:=HG.out;exact ⟨m8.os.trans (m67.os.trans hG.os),m8.tape.trans (m67.tape.trans hG.tape),m8.output.trans (m67.output.trans hG.output),by have:=m8.size;omega,fun j hj hne=>(m8.block j (by omega)).trans ((m67.block j (by omega)).trans (hG.block j hj hne))⟩
   ·rw [HEq.out,show ((List.range (k+1)).map fun j=>atM zs (i+j)).length=k+1 by simp];exact da B8 21 _
   ·have:=OwnC.gb o8 (ax (aE v8 (some sb)) 21 (.slice (some ⟨g8,0,none⟩) (k+1) c8)) (by omega);have e:fN ((List.range k).map fun j=>atM zs (i+j))++fN [z]=fN ((List.range (k+1)).map fun j=>atM zs (i+j)):=by
     rw [nj,HZ.out];simp [fN]
    rw [e] at this;exact this
   ·simp [intOf];omega
  ·have hkn':k=n:=by omega
   subst hkn';have HEf:Hid (DecEnd w wr hb q h):=by
    have hG:=HG.out;have hE:=HE9.out;exact ⟨av hE.box hG (by omega),av hE.res hG (by omega),hE.low,bT hE.mem HB9.out (by decide) hG,hE.memb,bT hE.regs HB9.out (by decide) hG,hE.ks.set HB9.out (by decide) hG,hwr⟩
   go_upto_region 43 with fail;have hS:=qD q pa pc h ((List.range k).map fun j=>atM zs (i+j));have hR:=HEf.out.res;have HLd:Hid _:=aB (P:=Tryz.prog) (T:=51) HBx.out Tryz.underlying51 rfl (by rw [hS];exact pF);have HSr:Hid _:=bO (P:=Tryz.prog) (T:=51) (V:=dg q pa pc h ((List.range k).map fun j=>atM zs (i+j))) hR (by rw [hS];exact pF) (by rw [hS,iP]) (oo _ _ _ _ _);have e1:=bs (V:=dg q pa pc h ((List.range k).map fun j=>atM zs (i+j))) hR (by rw [hS,iP]);have gR:=aU w.heap.size (dg q pa pc h ((List.range k).map fun j=>atM zs (i+j))).toList 0 wr wr (aE wr _);have nR:=bf (Nat.le_refl w.heap.size) (dg q pa pc h ((List.range k).map fun j=>atM zs (i+j))).toList 0 wr hwr;have HOf:Hid ((wr.setCells w.heap.size 0 (dg q pa pc h ((List.range k).map fun j=>atM zs (i+j))).toList).ownsRow (sb+1) 2 1 (.slice pa k pc) k (fN ((List.range k).map fun j=>atM zs (i+j)))):=bZ HO.out gR (by omega);have HEg:Hid _:=(HEf.out.hart HKo.out hml hrl);go_wp2_with (first
    | ((with_reducible refine az ?_ HLd.out ?_);(exact rfl))
    | ((with_reducible refine au ?_ ?_ HSr.out ?_);(exact rfl);(exact rfl)))
   rw [←HQ.out];refine ec (b:=w.heap.size) Tryz.results15 rfl (bj (P:=Tryz.prog) e1 Tryz.underlying51 rfl (by rw [hS];exact pF)) rfl ?_;rw [HPs.out];refine ⟨⟨q,pa,pc,rfl,HEg.out.1.gb gR (fun x hx=>by have:=HEf.out.above x hx;omega),HEg.out.2,?_⟩,nR⟩;have:=aT HOf.out (show w.heap.size≤sb+1 by omega);simp only [List.length_map,List.length_range];exact this
theorem lB (a:Option Addr) (len cap:Nat) (zs:List Int) (w:World) (hB:Byt w a len zs) (hl:len≤1048576):
 Calls Tryz.prog 15 #[.slice a len cap] w (mN w (fc zs) (iF zs)):=by
 have hb:=hB.2.1;refine yq a len cap zs w hB hl _ ?_;intro v hb' size n p u5 u15 u16 u17 u18 u19 u20 u21 u22 u23 u24 u25 u26 u27 u28 u29 u30 u31 u32 u33 u34 u35 u36 u37 u38 u39 u40 u41 u42 u43 u44 u45 u46 u47 u48 u49 u50 u51 u52 u53 u54 u55 u56 u57 u58 u59 u60 u61 u62 u63 u64 u65 u66 u67 u68 u69 u70 u71 u72 u73 u74 u75 u76 u77 u78 u79 u80 u81 u82 u83 u84 u85 hD har hcr hsz hn K hK;have h3:=pO hb 3;have hsz':64≤size∧size≤4096:=by omega
 have hko:kOk ⟨aC (atM zs 0),aC (atM zs 1),aC (atM zs 2)⟩:=⟨jH _,jH _,jH _⟩;have hn2:n≤20000:=by rw [hn];unfold kP;omega
 refine zV a len cap zs w hB hl v hb' size n p u5 u15 u16 u17 u18 u19 u20 u21 u22 u23 u24 u25 u26 u27 u28 u29 u30 u31 u32 u33 u34 u35 u36 u37 u38 u39 u40 u41 u42 u43 u44 u45 u46 u47 u48 u49 u50 u51 u52 u53 u54 u55 u56 u57 u58 u59 u60 u61 u62 u63 u64 u65 u66 u67 u68 u69 u70 u71 u72 u73 u74 u75 u76 u77 u78 u79 u80 u81 u82 u83 u84 u85 _ _ _ _ _ _ _ hko hD har hcr hsz' hn2 _ ?_ K hK;intro v9 q mem i u5 u7 u9 u10 u11 u12 u15 u16 u17 u18 u19 u20 u21 u22 u23 u24 u25 u26 u27 u28 u29 u30 u31 u32 u33 u34 u35 u36 u37 u38 u39 u40 u41 u42 u43 u44 u45 u46 u47 u48 u49 u50 u51 u52 u53 u54 u55 u56 u57 u58 u59 u60 u61 u62 u63 u64 u65 u66 u67 u68 u69 u70 u71 u72 u73 u74 u75 u76 u77 u78 u79 u80 u81 u82 u83 u84 u85 u86 u87 u88 u89 u90 u91 u92 u93 u94 u95 u96 u97 u98 u99 u100 u101 u102 u103 u104 u105 u106 u107 u108 u109 u110 u111 u112 u113 u114 u115 u116 u117 u118 u119 u120 u121 u122 u123 u124 u125 u126 u127 u128 u129 u130 u131 u132 u133 u134 u135 u136 u137 u138 u139 u140 u141 u142 u143 u144 u145 u146 u147 hE hml hi hrun K2 hK2;have hmem:vV zs=(mem,i):=by unfold vV;rw [←hsz];exact hrun
 have hX:fc zs=⟨mem,jX zs,cW zs 7,jW (atM zs 4),atM zs 4/4%2 == 1,atM zs 4/8%2 == 1,if eM (cW zs 23)=true then cW zs 23 else 0,cW zs 15/4*4,0,jW (atM zs 4),0,0,⟨aC (atM zs 0),aC (atM zs 1),aC (atM zs 2)⟩⟩:=by
  unfold fc;rw [hmem]
 have hps:iF zs=((List.range n).map fun j=>atM zs (i+j)):=by
  unfold iF;rw [hmem,←hn]
 rw [hX,hps] at hK2 ⊢;exact z8 a len cap zs w hB hl v9 hb' size n i q _ u5 u7 u9 u10 u11 u12 u15 u16 u17 u18 u19 u20 u21 u22 u23 u24 u25 u26 u27 u28 u29 u30 u31 u32 u33 u34 u35 u36 u37 u38 u39 u40 u41 u42 u43 u44 u45 u46 u47 u48 u49 u50 u51 u52 u53 u54 u55 u56 u57 u58 u59 u60 u61 u62 u63 u64 u65 u66 u67 u68 u69 u70 u71 u72 u73 u74 u75 u76 u77 u78 u79 u80 u81 u82 u83 u84 u85 u86 u87 u88 u89 u90 u91 u92 u93 u94 u95 u96 u97 u98 u99 u100 u101 u102 u103 u104 u105 u106 u107 u108 u109 u110 u111 u112 u113 u114 u115 u116 u117 u118 u119 u120 u121 u122 u123 u124 u125 u126 u127 u128 u129 u130 u131 u132 u133 u134 u135 u136 u137 u138 u139 u140 u141 u142 u143 u144 u145 u146 u147 hE hn2 hi hko (by show 0<mem.length;omega) (by show 0<(jX zs).length;simp [jX]) _ rfl K2 hK2
end Go.Proofs.YtaoaifmkhbgaiaaGreat

namespace Go.Proofs.YtaoaifmkhbgaiaaGreat
open Go.RowKit
set_option linter.unusedVariables false
theorem zq (v:World) (V:Array Value) (hs:V.size=22) (h1:V.all (·.oneCell')=true):
 ∃v',(Instr.storeAt 51 (.pointer (some ⟨v.heap.size,0,none⟩)) (.agg V)).run Tryz.prog (v.alloc (Obj.cells fG 51))=.ok () v'∧v'.heap[v.heap.size]?=some (.cells V 51 (0,0))∧v.heap.size<v'.heap.size∧Below v.heap.size v v':=by
 have a:=di v fG 51;refine ⟨_,bO (P:=Tryz.prog) (T:=51) a.1 (by rw [hs];exact pF) (by rw [hs];rfl) h1,bs a.1 (by rw [hs];rfl),?_,?_⟩
 ·rw [dy,a.2.1];exact Nat.lt_succ_self _
 ·exact bf (Nat.le_refl _) _ _ _ a.2.2
theorem il {P:Program} {ops:Array Oper} {Q:Exit→Act→World→Prop} {rest:List Oper} {a:Act} {d:Tmp} {T ty:TypeId} {x:Operand} {pos:String} {af:Array Edge} {g:Option (Nat × Bool)} {w:World} {b o:Nat} {V:Value} (hw:Region.wanted { dst:=some d,op:=.load T x,type:=ty,pos:=pos,after:=af,guard:=g } (yielded ops a.tmps)=true) (hx:a.eval x=.pointer (some ⟨b,o,none⟩)) (hl:(Instr.loadAt T (.pointer (some ⟨b,o,none⟩))).run P w=.ok V w)
 (h:wpList P ops Q rest (a.put (some d) V) w):wpList P ops Q ({ dst:=some d,op:=.load T x,type:=ty,pos:=pos,after:=af,guard:=g }::rest) a w:=
 wpList_step fun K hK=>by
  rw [if_pos hw];unfold Oper.wp execOp;simp only [hx,Sem.run_bind,hl,Result.andThen_ok,Sem.run_pure];exact hK _ _ h
theorem pS (v:World) (V:Array Value) (hs:V.size=21) (h1:V.all (·.oneCell')=true):
 ∃v',(Instr.storeAt 48 (.pointer (some ⟨v.heap.size,0,none⟩)) (.agg V)).run Tryz.prog (v.alloc (Obj.cells fu 48))=.ok () v'∧v'.heap[v.heap.size]?=some (.cells V 48 (0,0))∧v.heap.size<v'.heap.size∧Below v.heap.size v v':=by
 have a:=di v fu 48;refine ⟨_,bO (P:=Tryz.prog) (T:=48) a.1 (by rw [hs];exact fW) (by rw [hs];rfl) h1,bs a.1 (by rw [hs];rfl),?_,?_⟩
 ·rw [dy,a.2.1];exact Nat.lt_succ_self _
 ·exact bf (Nat.le_refl _) _ _ _ a.2.2
theorem mC {v:World} {g:Nat} {V:Array Value} (hs:V.size=21) (h:v.heap[g]?=some (.cells V 48 (0,0))):(Instr.loadAt 48 (.pointer (some ⟨g,0,none⟩))).run Tryz.prog v=.ok (.agg V) v:=
 aB h Tryz.underlying48 rfl (by rw [hs];exact fW)
end Go.Proofs.YtaoaifmkhbgaiaaGreat

namespace Go.Proofs.YtaoaifmkhbgaiaaGreat
open Go.RowKit
set_option linter.unusedVariables false
attribute [local go_sem ↓] Go.wp_at_zero Go.wp_at_succ
theorem yD {zs:List Int} (hz:∀i:Nat,0≤zs[i]?.getD 0∧zs[i]?.getD 0≤255):∀y∈iF zs,0≤y∧y≤255:=by
 intro y hy;simp only [iF,List.mem_map] at hy;obtain ⟨k,_,rfl⟩:=hy;exact hz _
structure ReachS (w:World) (p:Nat) (f:Nat→Int) (k:Nat) (wr:World) (b2 b3 b4:Nat) (S:Array Value) (pa:Option Addr) (pc:Nat) (ps:List Int) (q:PtrM) (h:HartM):Prop where
 d:DrewN w p f k wr
 h2:wr.heap[b2]?=some (.cells fu 48 (0,0))
 h3:wr.heap[b3]?=some (.cells S 51 (0,0))
 pk:wr.ownsRow w.heap.size 2 1 (.slice pa ps.length pc) ps.length (fN ps)
 h4:wr.heap[b4]?=some (.cells (aD q h) 48 (0,0))
 hi:HartIn wr q h
 ok:HOk h
 ne:∀x,some x∈aQ q→w.heap.size≤x.block∧x.block≠b2∧x.block≠b4
theorem ReachS.keep {w wr v:World} {p:Nat} {f:Nat→Int} {k b2 b3 b4:Nat} {S:Array Value} {pa:Option Addr} {pc:Nat} {ps:List Int} {q:PtrM} {h:HartM} (s:ReachS w p f k wr b2 b3 b4 S pa pc ps q h) (hp:p<w.heap.size) (hb:Below wr.heap.size wr v):ReachS w p f k v b2 b3 b4 S pa pc ps q h:=
 ⟨s.d.below (hb.mono s.d.2.size) hp,ab s.h2 hb (Array.getElem?_eq_some_iff.1 s.h2).1,ab s.h3 hb (Array.getElem?_eq_some_iff.1 s.h3).1,aj s.pk hb,ab s.h4 hb (Array.getElem?_eq_some_iff.1 s.h4).1,s.hi.keep hb,s.ok,s.ne⟩
theorem ReachS.draw {w wr v:World} {p:Nat} {f:Nat→Int} {k k' b2 b3 b4:Nat} {S:Array Value} {pa:Option Addr} {pc:Nat} {ps:List Int} {q:PtrM} {h:HartM} (s:ReachS w p f k wr b2 b3 b4 S pa pc ps q h) (hp:p<w.heap.size) (l2:w.heap.size≤b2) (l3:w.heap.size≤b3) (l4:w.heap.size≤b4) (d:DrewN wr p f k' v):ReachS w p f k' v b2 b3 b4 S pa pc ps q h:=
 ⟨s.d.trans d,av s.h2 d.2 (by omega),av s.h3 d.2 (by omega),bZ s.pk d.2 hp,av s.h4 d.2 (by omega),s.hi.gb d.2 (fun x hx=>by have:=s.ne x hx;omega),s.ok,s.ne⟩
theorem ReachS.next {w wr v:World} {p:Nat} {f:Nat→Int} {k b2 b3 b4:Nat} {S:Array Value} {pa:Option Addr} {pc:Nat} {ps:List Int} {q q':PtrM} {h h':HartM} (s:ReachS w p f k wr b2 b3 b4 S pa pc ps q h) (hp:p<w.heap.size) (l2:w.heap.size≤b2) (l4:w.heap.size≤b4) (n24:b2≠b4) (hb:Below wr.heap.size wr v) (hi:HartIn v q' h') (ok:HOk h') (ge:∀x,some x∈aQ q'→wr.heap.size≤x.block):
 ∃v',(Instr.storeAt 48 (.pointer (some ⟨b4,0,none⟩)) (.agg (aD q' h'))).run Tryz.prog v=.ok () v'∧ReachS w p f k v' b2 b3 b4 S pa pc ps q' h':=by
 have s1:=s.keep hp hb;have r2:=(Array.getElem?_eq_some_iff.1 s.h2).1;have r4:=(Array.getElem?_eq_some_iff.1 s.h4).1;have rw:=s.d.2.size;obtain ⟨v',hs',h4',g', -⟩:=cC s1.h4 (aD q' h') fW rfl (fD _ _);have n34:b3≠b4:=fun e=>by
  have a:=s1.h3;rw [e,s1.h4] at a;cases a
 exact ⟨v',hs',s1.d.own g' l4 hp,av s1.h2 g' n24,av s1.h3 g' n34,bT s1.pk s1.h4 (by decide) g',h4',hi.gb g' (fun x hx=>by have:=ge x hx;omega),ok,fun x hx=>by have:=ge x hx;exact ⟨by omega,by omega,by omega⟩⟩
set_option maxRecDepth 20000 in
set_option maxHeartbeats 6400000 in
theorem tz (p:Nat) (f:Nat→Int) (k:Nat) (w:World) (hc:CurN w p f k):
 Calls Tryz.prog 27 #[.pointer (some ⟨p,0,none⟩)] w fun e w'=>∃(q:PtrM) (h:HartM) (k':Nat),e=.returned (.agg (aD q h))∧HartN w' p q h∧(∀x,some x∈aQ q→w.heap.size≤x.block)∧DrewN w p f k' w':=by
 have hp:=hc.lt;have CS:Hid (∀(u:World) (g nn cp:Nat) (zs:List Int),Byt u (some ⟨g,0,none⟩) nn zs→nn≤1048576→Calls Tryz.prog 15 #[.slice (some ⟨g,0,none⟩) nn cp] u (mN u (fc zs) (iF zs))):=fun u g nn cp zs h1 h2=>lB _ nn cp zs u h1 h2;have CP:Hid (∀(q:PtrM) (h:HartM) (y:Int) (u:World),HartIn u q h→HOk h→(0≤y∧y≤255)→Calls Tryz.prog 80 #[.agg (aD q h),.bool false,.int .i64 y] u (jN u false y (pj false y h))):=fun q h y u h1 h2 h3=>wO q h false y u h1 h2 h3;have SO:Hid (∀(y:Int) (h:HartM),(0≤y∧y≤255)→HOk h→HOk (pj false y h).h):=fun y h h1 h2=>(zm false h1 h2).h;go_enter Tryz.func27,Tryz.ntmps27;go_upto_region 1 with fail;have F:=di w fu 48;generalize w.alloc (Obj.cells fu 48)=v1 at F ⊢;obtain ⟨h2,l1,n1⟩:=F;have H2:Hid _:=h2;have d1:=(DrewN.refl hc).below n1 hp;clear h2 n1;go_wp2_with fail;refine (wZ p f v1 ⟨d1.1.lt,k,DrewN.refl d1.1⟩).mono ?_;rintro e v2 ⟨g,nn,cp,⟨hn1,hn2⟩,rfl, -,k2,zs,o2⟩;replace H2:Hid _:=av H2.out o2.d.2 (by omega);replace d1:=d1.trans o2.d;have yZ:=OwnB.byt o2.o o2.b;have hok:Hid (HOk (fc zs)):=tW o2.b;have PB:Hid (∀y∈iF zs,0≤y∧y≤255):=yD o2.b;have pl:(iF zs).length≤20000:=by
  simp only [iF,List.length_map,List.length_range,kP];omega
 have s2:=o2.d.2.size;have CD:=CS.out v2 g nn cp zs yZ (by omega);clear o2 yZ CS;generalize fc zs=h0 at *;generalize iF zs=ps at *;go_wp2_with fail;refine CD.mono ?_;rintro e v3 ⟨⟨q,pa,pc,rfl,hi,hge,op⟩,n3⟩;replace H2:=ae H2 n3;have HI:Hid _:=hi;have HG:Hid (∀x,some x∈aQ q→v2.heap.size≤x.block∧x.block<v3.heap.size):=fun x hx=>⟨hge x hx,hi.low x hx⟩;have OP:Hid (v3.ownsRow w.heap.size 2 1 (.slice pa ps.length pc) ps.length (fN ps)):=aT op (by omega);have s3:=n3.size;replace d1:=d1.below (n3.mono d1.2.size) hp;clear hi hge op n3 CD;obtain ⟨v4,hs4,P4,l4,n4⟩:=zq v3 (dg q pa pc h0 ps) rfl (oo _ _ _ _ _);have SH:Hid (((dg q pa pc h0 ps).toList.drop 0).take 21=(aD q h0).toList):=by show _=_;rfl
 have SP:Hid ((dg q pa pc h0 ps)[21]?=some (.slice pa ps.length pc)):=by show _=_;rfl
 have HS4:Hid _:=hs4;generalize dg q pa pc h0 ps=S at *;have H3:Hid _:=P4;replace H2:=ae H2 n4;replace HI:Hid _:=HI.out.keep n4;replace OP:Hid _:=aj OP.out n4;have s4:=n4.size;replace d1:=d1.below (n4.mono d1.2.size) hp;clear hs4 P4 n4;go_upto_region 2 with (first | ((with_reducible refine au ?_ ?_ HS4.out ?_);(exact rfl);(exact rfl)));clear HS4;have J3:Hid _:=co (P:=Tryz.prog) (T:=48) H3.out Tryz.underlying48 rfl (o:=0) (aD q h0).toList fW SH.out rfl;rw [show (aD q h0).toList.toArray=aD q h0 from rfl] at J3;obtain ⟨v5,hs5,P5,l5,n5⟩:=pS v4 (aD q h0) rfl (fD _ _);have HS5:Hid _:=hs5;have K0:Hid (ReachS w p f k2 v5 w.heap.size v3.heap.size v4.heap.size S pa pc ps q h0):=⟨d1.below (n5.mono d1.2.size) hp,(ae H2 n5).out,(ae H3 n5).out,aj OP.out n5,P5,HI.out.keep n5,hok.out,fun x hx=>by
  have:=HG.out x hx;exact ⟨by omega,by omega,by omega⟩⟩
 clear hs5 P5 n5 SH HI HG hok OP H2 H3 d1;generalize aD q h0=A0 at *;go_upto_region 3 with (first | ((with_reducible refine az ?_ J3.out ?_);(exact rfl)) | ((with_reducible refine au ?_ ?_ HS5.out ?_);(exact rfl);(exact rfl)));clear J3 HS5;have b12:w.heap.size<v3.heap.size:=by omega
 have b34:v3.heap.size<v4.heap.size:=l4;generalize hg4:v4.heap.size=b4 at *;generalize hg3:v3.heap.size=b3 at *;generalize hg2:w.heap.size=b2 at K0 b12 ⊢;simp only [Act.put];go_wp2_with fail;refine (aX p f k2 40 _ K0.out.d.1 (by omega) (by omega)).mono ?_;rintro e v6 ⟨y,k6, -,hy,rfl,d6⟩;replace K0:Hid _:=K0.out.draw hp (by omega) (by omega) (by omega) d6;clear d6;obtain ⟨N,hN⟩:∃N:Nat,(4+y:Int)=N:=⟨(4+y).toNat,by omega⟩;have bN:N≤50:=by omega
 go_wp2_with fail;clear hN;go_loopw [6] (fun ii wr=>∃(i:Nat) (q:PtrM) (h:HartM),i≤N∧ii=.int .i64 i∧ReachS w p f k6 wr b2 b3 b4 S pa pc ps q h) (fun ii _=>N-(intOf ii).toNat)
 case atStart=>exact ⟨0,q,h0,Nat.zero_le _,rfl,K0.out⟩
 case round=>
 clear K0;obtain ⟨i,q,h,hi,rfl,s⟩:=hrel;have HK:Hid _:=s;clear s;have c21:=ag HK.out.h3 21 SP.out;go_upto_region 5 with fail;go_cut [24] from 15 to 23 (fun s24 wx=>∃bb:Bool,s24=.bool bb∧(bb=true→i<N∧i<ps.length)∧wx=wr)
 case first=>
  by_cases hlt:i<N
  ·have e1:decide ((i:Int)<(N:Int))=true:=by simp;omega
   go_wp2_with fail;go_meet
   case rel=>exact ⟨_,rfl,(fun h=>⟨hlt,by have h':(i:Int)<(ps.length:Int):=(by simpa using h);omega⟩),rfl⟩
  ·have e1:decide ((i:Int)<(N:Int))=false:=by simp;omega
   go_wp2_with fail;go_meet
   case rel=>exact ⟨_,rfl,(fun h=>by cases h),rfl⟩
 case rest=>
 obtain ⟨bb,rfl,hbb,rfl⟩:=hcut;rename World=>wz;cases bb
 ·as_aux_lemma=>
   clear hbb c21;have J4:Hid _:=mC (V:=aD q h) rfl HK.out.h4;obtain ⟨vE,hsE,hE,gE, -⟩:=cC HK.out.h2 (aD q h) fW rfl (fD _ _);have HSE:Hid _:=hsE;have HhE:Hid _:=hE;have dE:=HK.out.d.own gE (show w.heap.size≤b2 by omega) hp;have HN:Hid (HartN vE p q h):=⟨HK.out.hi.gb gE (fun x hx=>(HK.out.ne x hx).2.1),fun x hx=>by have:=(HK.out.ne x hx).1;omega,HK.out.ok⟩;have HGE:Hid (∀x,some x∈aQ q→w.heap.size≤x.block):=fun x hx=>(HK.out.ne x hx).1;have hAs:=ez q h;clear HK hE gE hsE;obtain ⟨AH,hAH⟩:∃A,aD q h=A:=⟨_,rfl⟩;have EAH:Hid _:=hAH;rw [hAH] at J4 HSE HhE hAs;clear hAH;go_wp2_with (first | ((with_reducible refine az ?_ J4.out ?_);(exact rfl)) | ((with_reducible refine au ?_ ?_ HSE.out ?_);(exact rfl);(exact rfl)));have hL:=bj (P:=Tryz.prog) HhE.out Tryz.underlying48 rfl (by rw [hAs];exact fW);refine ec (b:=b2) Tryz.results27 rfl hL rfl ?_;exact ⟨q,h,k6,by rw [EAH.out],HN.out,HGE.out,dE⟩
 ·as_aux_lemma=>
   obtain ⟨hlN,hlt⟩:=hbb rfl;clear hbb;obtain ⟨y,hy⟩:∃y,ps[i]=y:=⟨_,rfl⟩;have by':0≤y∧y≤255:=by rw [←hy];exact PB.out _ (List.getElem_mem hlt)
   have pki:(fN ps)[i]?=some (.int .i64 y):=by
    rw [←hy];simp [fN,List.getElem?_eq_getElem hlt]
   obtain ⟨pg,hpg⟩:=qY HK.out.pk (by omega);subst hpg;have HPC:Hid (∀u,Below wz.heap.size wz u→u.cell? ⟨pg,i,none⟩=some (.int .i64 y)∧pg<u.heap.size):=fun u hu=>by
    have ho:=aj HK.out.pk hu;refine ⟨?_,(bI ho).2.2⟩;have:=aI ho i _ pki;simpa using this
   clear pki hy c21;go_upto_region 7 with fail;have HH4:Hid (∀u:World,u.heap[b4]?=some (.cells (aD q h) 48 (0,0))→(Instr.loadAt 48 (.pointer (some ⟨b4,0,none⟩))).run Tryz.prog u=.ok (.agg (aD q h)) u):=fun u hu=>mC rfl hu;have HSt:Hid (∀u,Below wz.heap.size wz u→Calls Tryz.prog 80 #[.agg (aD q h),.bool false,.int .i64 y] u (jN u false y (pj false y h))):=fun u hu=>CP.out q h y u (HK.out.hi.keep hu) HK.out.ok by';obtain ⟨X,hX⟩:∃X,pj false y h=X:=⟨_,rfl⟩;rw [hX] at HSt;have HXK:Hid (HOk X.h):=by rw [←hX];exact SO.out y h by' HK.out.ok
   clear hX;obtain ⟨AH,hAH⟩:∃A,aD q h=A:=⟨_,rfl⟩;rw [hAH] at HSt HH4;have H4':Hid (wz.heap[b4]?=some (.cells AH 48 (0,0))):=by rw [←hAH];exact HK.out.h4
   clear hAH;have HL3:Hid (∀u:World,u.heap[b3]?=some (.cells S 51 (0,0))→(Instr.loadAt 49 (.pointer (some ⟨b3,21,none⟩))).run Tryz.prog u=.ok (.slice (some ⟨pg,0,none⟩) ps.length pc) u):=fun u hu=>by
    have h1:=ag hu 21 SP.out;go_simp
   have HLp:Hid (∀u:World,u.cell? ⟨pg,i,none⟩=some (.int .i64 y)→(Instr.loadAt 2 (.pointer (some ⟨pg,i,none⟩))).run Tryz.prog u=.ok (.int .i64 y) u):=fun u hu=>by
    go_simp
   have lw3:b3<wz.heap.size:=(Array.getElem?_eq_some_iff.1 HK.out.h3).1;have lw4:b4<wz.heap.size:=(Array.getElem?_eq_some_iff.1 HK.out.h4).1;have HBo:Hid (∀u:World,Below wz.heap.size wz u→u.heap[b4]?=some (.cells AH 48 (0,0))∧u.heap[b3]?=some (.cells S 51 (0,0))∧u.cell? ⟨pg,i,none⟩=some (.int .i64 y)):=fun u hu=>⟨ab H4'.out hu lw4,ab HK.out.h3 hu lw3,(HPC.out u hu).1⟩;have nD:Below wz.heap.size wz wz.drew:=(Below.refl _ _).drew;have hF:=HBo.out wz.drew nD;refine ba (fun u=>u.heap[b4]?=some (.cells AH 48 (0,0))∧u.heap[b3]?=some (.cells S 51 (0,0))∧u.cell? ⟨pg,i,none⟩=some (.int .i64 y)) 8 (by kernel_rfl) ?_;refine ah 0 27 (.agg AH) rfl (by kernel_rfl) (by kernel_rfl) (by kernel_rfl) (by kernel_rfl) rfl (by kernel_rfl) (fun _ _ _ h=>h) (by kernel_rfl) (fun u hu=>aM rfl (HH4.out u hu.1)) hF (by kernel_rfl) ?_;simp only [Act.put,List.setIfInBounds_toArray,List.set_cons_succ,List.set_cons_zero];refine ah 1 28 (.pointer (some ⟨b3,21,none⟩)) rfl (by kernel_rfl) (by kernel_rfl) (by kernel_rfl) (by kernel_rfl) rfl (by kernel_rfl) (fun _ _ _ h=>h) (by kernel_rfl) (fun u hu=>by kernel_rfl) hF (by kernel_rfl) ?_;simp only [Act.put,List.setIfInBounds_toArray,List.set_cons_succ,List.set_cons_zero];refine ah 2 29 (.slice (some ⟨pg,0,none⟩) ps.length pc) rfl (by kernel_rfl) (by kernel_rfl) (by kernel_rfl) (by kernel_rfl) rfl (by kernel_rfl) (fun _ _ _ h=>h) (by kernel_rfl) (fun u hu=>aM rfl (HL3.out u hu.2.1)) hF (by kernel_rfl) ?_;simp only [Act.put,List.setIfInBounds_toArray,List.set_cons_succ,List.set_cons_zero];refine ah 3 30 (.int .i64 (i:Int)) rfl (by kernel_rfl) (by kernel_rfl) (by kernel_rfl) (by kernel_rfl) rfl (by kernel_rfl) (fun _ _ _ h=>h) (by kernel_rfl) (fun u hu=>by kernel_rfl) hF (by kernel_rfl) ?_;simp only [Act.put,List.setIfInBounds_toArray,List.set_cons_succ,List.set_cons_zero];refine ah 4 31 (.pointer (some ⟨pg,i,none⟩)) rfl (by kernel_rfl) (by kernel_rfl) (by kernel_rfl) (by kernel_rfl) rfl (by kernel_rfl) (fun _ _ _ h=>h) (by kernel_rfl) (fun u hu=>by have h1:=hlt;go_simp) hF (by kernel_rfl) ?_;simp only [Act.put,List.setIfInBounds_toArray,List.set_cons_succ,List.set_cons_zero];refine ah 5 32 (.int .i64 y) rfl (by kernel_rfl) (by kernel_rfl) (by kernel_rfl) (by kernel_rfl) rfl (by kernel_rfl) (fun _ _ _ h=>h) (by kernel_rfl) (fun u hu=>aM rfl (HLp.out u hu.2.2)) hF (by kernel_rfl) ?_;simp only [Act.put,List.setIfInBounds_toArray,List.set_cons_succ,List.set_cons_zero];refine be 6 33 (by kernel_rfl) rfl (by kernel_rfl) (by kernel_rfl) (f:=80) (args:=#[.agg AH,.bool false,.int .i64 y]) (by kernel_rfl) ?_;refine (HSt.out wz.drew nD).mono ?_;rintro e v7 ⟨⟨p',al',cl',rfl,hRI,hge,_⟩,n7'⟩;have n7:Below wz.heap.size wz v7:=Below.step nD n7' (Nat.le_refl _);refine ⟨_,rfl,fun _=>HBo.out v7 n7,?_⟩;simp only [Act.put,List.setIfInBounds_toArray,List.set_cons_succ,List.set_cons_zero];refine ei 7 34 (.agg (aD p' X.h)) (w':=v7) (by kernel_rfl) rfl (by kernel_rfl) (by kernel_rfl) (by kernel_rfl) (fun _=>HBo.out v7 n7) ?_;simp only [Act.put,List.setIfInBounds_toArray,List.set_cons_succ,List.set_cons_zero];obtain ⟨v8,hs8,S8⟩:=HK.out.next hp (by omega) (by omega) (by omega) n7 hRI.h HXK.out hge;have HS8:Hid _:=hs8;refine bB 8 rfl (T:=48) (x:=.tmp 4) (y:=.tmp 34) (by kernel_rfl) (by kernel_rfl) (by kernel_rfl) (by kernel_rfl) (b:=b4) (off:=0) (by kernel_rfl) (by kernel_rfl) HS8.out (.inl (by kernel_rfl)) ?_;refine bQ (by kernel_rfl) ?_ _;have S9:Hid _:=S8;clear S8 hs8 HS8 hRI hge n7' n7 HK;generalize aK p' al' cl' false y X=RR;generalize aD p' X.h=AP;go_wp2_with fail;go_roundw
   case rel=>exact ⟨i+1,p',X.h,by omega,by go_num,S9.out⟩
   case measure=>simp [intOf];omega
end Go.Proofs.YtaoaifmkhbgaiaaGreat
