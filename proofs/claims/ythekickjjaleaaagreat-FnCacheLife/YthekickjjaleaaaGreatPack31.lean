import Derived.Test.YthekickjjaleaaaGreatPack30
import Derived.Test.YthekickjjaleaaaGreatPack12
import Derived.Test.YthekickjjaleaaaGreatPack09
import Derived.Deep.CutRange
import Derived.Test.YthekickjjaleaaaGreatPack20
import Derived.Test.YthekickjjaleaaaGreatPack14
import Derived.Test.YthekickjjaleaaaGreatPack28
import Derived.Test.YthekickjjaleaaaGreatPack02
namespace Go.Proofs.YthekickjjaleaaaGreat
open Go.RowKit
set_option linter.unusedVariables false
attribute [local go_sem ↓] Go.wp_at_zero Go.wp_at_succ
theorem sL (zs:List Int):∀u∈eO zs,u.oneCell'=true:=by
 intro u hu;simp only [eO,List.mem_map] at hu;obtain ⟨z,_,rfl⟩:=hu;rfl
theorem DecEnd.above {w v:World} {hb:Nat} {q:PtrM} {h:HartM} (d:DecEnd w v hb q h):∀x,some x∈aN q→w.heap.size+1≤x.block:=by
 intro x hx;have:=d.low;simp only [aN,List.mem_cons,List.not_mem_nil,or_false] at hx;rcases hx with hx | hx | hx | hx | hx
 ·have:=(eZ d.mem x hx.symm).1;omega
 ·have:=(eZ d.regs x hx.symm).1;omega
 ·exact (d.ks.ptrs x (.inl hx.symm)).1
 ·exact (d.ks.ptrs x (.inr (.inl hx.symm))).1
 ·exact (d.ks.ptrs x (.inr (.inr hx.symm))).1
theorem oa {e:TypeId} {size base n c:Nat} {w:World} {a:Option Addr} {cs:List Value} (h:w.ownsRow base e size (.slice a n c) n cs) (hn:0<n):∃g,a=some ⟨g,0,none⟩:=by
 rcases h.2 with ⟨_,h2⟩ | ⟨g,cap,cur,h1,_⟩
 ·omega
 ·simp only [Value.slice.injEq] at h1;exact ⟨g,h1.1⟩
theorem DecEnd.hart {w v:World} {hb:Nat} {q:PtrM} {h:HartM} (d:DecEnd w v hb q h) (hk:kOk h.k) (hm:0<h.mem.length) (hr:0<h.regs.length):HartIn v q h∧∀x,some x∈aN q→w.heap.size≤x.block:=by
 obtain ⟨g1,e1⟩:=oa d.mem hm;obtain ⟨g2,e2⟩:=oa d.regs hr;have om:=d.mem;have og:=d.regs;rw [e1] at om;rw [e2] at og;have f1:=OwnC.facts om;have f2:=OwnC.facts og;refine ⟨⟨?_,?_,fH d.regs,?_,?_,d.ks.at hk,?_⟩,fun x hx=>by have:=d.above x hx;omega⟩
 ·rw [e1];exact OwnB.byt (e:=5) (base:=hb+1) om (cV d.memb)
 ·simp only [maxLen] at f1;omega
 ·simp only [maxLen] at f2;omega
 ·rw [e2];exact ⟨fun h0=>(by cases h0),fun x hx=>(by cases hx;rfl)⟩
 ·intro x hx;simp only [aN,List.mem_cons,List.not_mem_nil,or_false] at hx;rcases hx with hx | hx | hx | hx | hx
  ·exact (eZ d.mem x hx.symm).2
  ·exact (eZ d.regs x hx.symm).2
  ·exact (d.ks.ptrs x (.inl hx.symm)).2
  ·exact (d.ks.ptrs x (.inr (.inl hx.symm))).2
  ·exact (d.ks.ptrs x (.inr (.inr hx.symm))).2
set_option maxRecDepth 20000 in
set_option maxHeartbeats 1200000 in
theorem wh (a:Option Addr) (len cap:Nat) (zs:List Int) (w:World) (hB:Byt w a len zs) (hl:len≤1048576) (v:World) (hb size n i:Nat) (q:PtrM) (h:HartM) (u5 u7 u9 u10 u11 u12 u15 u16 u17 u18 u19 u20 u21 u22 u23 u24 u25 u26 u27 u28 u29 u30 u31 u32 u33 u34 u35 u36 u37 u38 u39 u40 u41 u42 u43 u44 u45 u46 u47 u48 u49 u50 u51 u52 u53 u54 u55 u56 u57 u58 u59 u60 u61 u62 u63 u64 u65 u66 u67 u68 u69 u70 u71 u72 u73 u74 u75 u76 u77 u78 u79 u80 u81 u82 u83 u84 u85 u86 u87 u88 u89 u90 u91 u92 u93 u94 u95 u96 u97 u98 u99 u100 u101 u102 u103 u104 u105 u106 u107 u108 u109 u110 u111 u112 u113 u114 u115 u116 u117 u118 u119 u120 u121 u122 u123 u124 u125 u126 u127 u128 u129 u130 u131 u132 u133 u134 u135 u136 u137 u138 u139 u140 u141 u142 u143 u144 u145 u146 u147:Value) (hE:DecEnd w v hb q h) (hn:n≤20000) (hi:i≤65878) (hko:kOk h.k) (hml:0<h.mem.length) (hrl:0<h.regs.length) (ps:List Int) (hps:ps=((List.range n).map fun j=>atM zs (i+j)))
 (K:Act→World→Prop) (hK:∀aa ww,(cB 19 (dL Tryz.f29)).wp Tryz.prog (bodyPost Tryz.prog Tryz.f29 (lM w h ps)) aa ww→K aa ww):
 (dm (cB 18 (dL Tryz.f29))).wp Tryz.prog (Exit.then K (bodyPost Tryz.prog Tryz.f29 (lM w h ps))) ⟨#[.slice a len cap,undef,.pointer (some ⟨w.heap.size,0,none⟩),.pointer (some ⟨hb,0,none⟩),.int .i64 (size:Nat),u5,.int .i64 (n:Nat),u7,.int .i64 (i:Nat),u9,u10,u11,u12,undef,undef,u15,u16,u17,u18,u19,u20,u21,u22,u23,u24,u25,u26,u27,u28,u29,u30,u31,u32,u33,u34,u35,u36,u37,u38,u39,u40,u41,u42,u43,u44,u45,u46,u47,u48,u49,u50,u51,u52,u53,u54,u55,u56,u57,u58,u59,u60,u61,u62,u63,u64,u65,u66,u67,u68,u69,u70,u71,u72,u73,u74,u75,u76,u77,u78,u79,u80,u81,u82,u83,u84,u85,u86,u87,u88,u89,u90,u91,u92,u93,u94,u95,u96,u97,u98,u99,u100,u101,u102,u103,u104,u105,u106,u107,u108,u109,u110,u111,u112,u113,u114,u115,u116,u117,u118,u119,u120,u121,u122,u123,u124,u125,u126,u127,u128,u129,u130,u131,u132,u133,u134,u135,u136,u137,u138,u139,u140,u141,u142,u143,u144,u145,u146,u147,undef,undef,undef,undef,undef,undef,undef,undef,undef,undef,undef,undef,undef,undef,undef,undef,undef,undef],[]⟩ v:=by
 obtain ⟨Q,hQ⟩:∃Q,bodyPost Tryz.prog Tryz.f29 (lM w h ps)=Q:=⟨_,rfl⟩;rw [hQ] at hK ⊢;have HQ:Hid _:=hQ;clear hQ;simp only [dm,cB,dL,Tryz.f29,Option.getD] at hK ⊢;have HQp:Hid (∀x (a:Act) d z w,Q (.panic x) (a.put d z) w→Q (.panic x) a w):=by
  show ∀x (a:Act) d z w,Q (.panic x) (a.put d z) w→Q (.panic x) a w;rw [←HQ.out];exact fun _ _ d _ _ h=>by cases d <;> exact h
 have HE:Hid _:=hE;have HPs:Hid _:=hps;have HKo:Hid _:=hko;have HB:Hid _:=hB;have HAt:Hid (∀(i:Nat) (u:World),i≤1073741824→Below w.heap.size w u→Calls Tryz.prog 97 #[.slice a len cap,.int .i64 i] u fun e w'=>e=.returned (.int .i64 (atM zs i))∧w'=u):=fun i u hi hu=>lA a len cap zs i u (Byt.keep HB.out hu) hl (by omega);clear hB hps hko hE;have hlo:=HE.out.low;have hlt:hb<v.heap.size:=(Array.getElem?_eq_some_iff.1 HE.out.box).1;have hHs:=dX q h;have HLv:Hid ((Instr.loadAt 59 (.pointer (some ⟨hb,0,none⟩))).run Tryz.prog v=.ok (.agg #[.slice q.am h.mem.length q.cm,.slice q.ar h.regs.length q.cr,.int .u64 h.pc,.int .i64 h.mode,.bool h.sum,.bool h.mxr,.int .u64 h.satp,.int .u64 h.tvec,.int .u64 h.epc,.int .i64 h.emode,.int .i64 h.cause,.int .u64 h.tval,.int .i64 h.k.i.sets,.int .i64 h.k.i.ways,.slice q.a1 h.k.i.es.length q.c1,.int .i64 h.k.d.sets,.int .i64 h.k.d.ways,.slice q.a2 h.k.d.es.length q.c2,.int .i64 h.k.p.sets,.int .i64 h.k.p.ways,.slice q.a3 h.k.p.es.length q.c3]) v):=aH (P:=Tryz.prog) (T:=59) HE.out.box Tryz.underlying59 rfl (by rw [hHs];exact eV);have a9:=dr v eB 62;have hS9:=mV q none 0 h [];have HS9:Hid _:=bu (P:=Tryz.prog) (T:=62) (V:=cG q none 0 h []) a9.1 (by rw [hS9];exact lL) (by rw [hS9,fX]) (kG _ _ _ _ _);have HB9:Hid _:=a6 (V:=cG q none 0 h []) a9.1 (by rw [hS9,fX]);have n9:=aZ (Nat.le_refl v.heap.size) (cG q none 0 h []).toList 0 _ a9.2.2;have s9:((v.alloc (Obj.cells eB 62)).setCells v.heap.size 0 (cG q none 0 h []).toList).heap.size=v.heap.size+1:=by rw [cF,a9.2.1]
 have HAg:Hid (cG q none 0 h []=#[.slice q.am h.mem.length q.cm,.slice q.ar h.regs.length q.cr,.int .u64 h.pc,.int .i64 h.mode,.bool h.sum,.bool h.mxr,.int .u64 h.satp,.int .u64 h.tvec,.int .u64 h.epc,.int .i64 h.emode,.int .i64 h.cause,.int .u64 h.tval,.int .i64 h.k.i.sets,.int .i64 h.k.i.ways,.slice q.a1 h.k.i.es.length q.c1,.int .i64 h.k.d.sets,.int .i64 h.k.d.ways,.slice q.a2 h.k.d.es.length q.c2,.int .i64 h.k.p.sets,.int .i64 h.k.p.ways,.slice q.a3 h.k.p.es.length q.c3,.slice none 0 0]):=rfl;clear a9;go_upto_region 39 with (first
  | ((with_reducible refine aK ?_ HLv.out ?_);(exact rfl))
  | ((with_reducible refine av ?_ ?_ HS9.out ?_);(exact rfl);(exact rfl)))
 have hw9:=Below.step HE.out.below n9 (Nat.le_refl _);have HE9:Hid (DecEnd w ((v.alloc (Obj.cells eB 62)).setCells v.heap.size 0 (cG q none 0 h []).toList) hb q h):=
  ⟨ab HE.out.box n9 hlt,ab HE.out.res n9 (by omega),HE.out.low,ak HE.out.mem n9,HE.out.memb,ak HE.out.regs n9,HE.out.ks.keep n9,hw9⟩
 generalize (v.alloc (Obj.cells eB 62)).setCells v.heap.size 0 (cG q none 0 h []).toList=v9 at HB9 s9 hw9 HE9 ⊢;clear HS9 HLv n9 HAg HE;generalize hsb:v.heap.size=sb at HB9 s9 hlt ⊢;clear hsb;go_wp2_with fail;go_loopw [14] (fun kv wr=>∃(k:Nat) (pa:Option Addr) (pc:Nat),k≤n∧kv=.int .i64 k∧v9.grownBy wr (some sb)∧wr.heap[sb]?=some (.cells (cG q pa pc h ((List.range k).map fun j=>atM zs (i+j))) 62 (0,0))∧wr.ownsRow (sb+1) 2 1 (.slice pa k pc) k (eO ((List.range k).map fun j=>atM zs (i+j)))) (fun kv _=>n-(intOf kv).toNat)
 case atStart=>exact ⟨0,none,0,Nat.zero_le _,rfl,az _ _,HB9.out,World.ownsRow_nil _ _ _ _⟩
 case round=>
  obtain ⟨k,pa,pc,hk,rfl,hG,hBx,hO⟩:=hrel;have HG:Hid _:=hG;have HBx:Hid _:=hBx;have HO:Hid _:=hO;have hgs:=hG.size;have c21:(cG q pa pc h ((List.range k).map fun j=>atM zs (i+j)))[21]?=some (.slice pa k pc):=by
   show some (Value.slice pa ((List.range k).map fun j=>atM zs (i+j)).length pc)=_;simp
  have hwr:Below w.heap.size w wr:=hw9.trans ⟨hG.os,hG.tape,hG.output,hG.size,fun j hj=>hG.block j (by omega) (by simp;omega)⟩;clear hG hBx hO;by_cases hkn:k<n
  ·go_upto_region 42 with fail;obtain ⟨z,hz⟩:∃z,atM zs (i+k)=z:=⟨_,rfl⟩;have HZ:Hid _:=hz;clear hz;have HL1:Hid (∀u:World,u.heap[sb]?=some (.cells (cG q pa pc h ((List.range k).map fun j=>atM zs (i+j))) 62 (0,0))→(Instr.loadAt 60 (.pointer (some ⟨sb,21,none⟩))).run Tryz.prog u=.ok (.slice pa k pc) u):=fun u hu=>by
    have h1:=ag hu 21 c21;go_simp
   have HBo:Hid (∀(u:World),Below (sb+1) wr u→u.heap[sb]?=some (.cells (cG q pa pc h ((List.range k).map fun j=>atM zs (i+j))) 62 (0,0))):=fun u hu=>(hu.block sb (by omega)).trans HBx.out;have HEq:Hid (∀pa' pc',cG q pa' pc' h ((List.range (k+1)).map fun j=>atM zs (i+j))=(cG q pa pc h ((List.range k).map fun j=>atM zs (i+j))).setIfInBounds 21 (.slice pa' ((List.range (k+1)).map fun j=>atM zs (i+j)).length pc')):=fun pa' pc'=>rfl;generalize cG q pa pc h ((List.range k).map fun j=>atM zs (i+j))=BX at HL1 HBo c21 HEq;have hF:wr.drew.heap[sb]?=some (.cells BX 62 (0,0)):=HBo.out wr (Below.refl _ _);refine be (fun u=>u.heap[sb]?=some (.cells BX 62 (0,0))) 10 (by kernel_rfl) ?_;refine ah 0 155 (.pointer (some ⟨sb,21,none⟩)) rfl (by kernel_rfl) (by kernel_rfl) (by kernel_rfl) (by kernel_rfl) rfl (by kernel_rfl) (fun _ _ _ h=>HQp.out _ _ _ _ _ h) (by kernel_rfl) (fun u hu=>by kernel_rfl) hF (by kernel_rfl) ?_;simp only [Act.put,List.setIfInBounds_toArray,List.set_cons_succ,List.set_cons_zero];refine ah 1 156 (.slice pa k pc) rfl (by kernel_rfl) (by kernel_rfl) (by kernel_rfl) (by kernel_rfl) rfl (by kernel_rfl) (fun _ _ _ h=>HQp.out _ _ _ _ _ h) (by kernel_rfl) (fun u hu=>aQ rfl (HL1.out u hu)) hF (by kernel_rfl) ?_;simp only [Act.put,List.setIfInBounds_toArray,List.set_cons_succ,List.set_cons_zero];refine ah 2 157 (.slice a len cap) rfl (by kernel_rfl) (by kernel_rfl) (by kernel_rfl) (by kernel_rfl) rfl (by kernel_rfl) (fun _ _ _ h=>HQp.out _ _ _ _ _ h) (by kernel_rfl) (fun u hu=>by kernel_rfl) hF (by kernel_rfl) ?_;simp only [Act.put,List.setIfInBounds_toArray,List.set_cons_succ,List.set_cons_zero];refine ah 3 158 (.int .i64 (i:Nat)) rfl (by kernel_rfl) (by kernel_rfl) (by kernel_rfl) (by kernel_rfl) rfl (by kernel_rfl) (fun _ _ _ h=>HQp.out _ _ _ _ _ h) (by kernel_rfl) (fun u hu=>by kernel_rfl) hF (by kernel_rfl) ?_;simp only [Act.put,List.setIfInBounds_toArray,List.set_cons_succ,List.set_cons_zero];refine ah 4 159 (.int .i64 (k:Nat)) rfl (by kernel_rfl) (by kernel_rfl) (by kernel_rfl) (by kernel_rfl) rfl (by kernel_rfl) (fun _ _ _ h=>HQp.out _ _ _ _ _ h) (by kernel_rfl) (fun u hu=>by kernel_rfl) hF (by kernel_rfl) ?_;simp only [Act.put,List.setIfInBounds_toArray,List.set_cons_succ,List.set_cons_zero];refine ah 5 160 (.int .i64 ((i+k:Nat):Int)) rfl (by kernel_rfl) (by kernel_rfl) (by kernel_rfl) (by kernel_rfl) rfl (by kernel_rfl) (fun _ _ _ h=>HQp.out _ _ _ _ _ h) (by kernel_rfl) (fun u hu=>(by go_simp;try exact (IntKind.wrap_i64 _).trans (by omega))) hF (by kernel_rfl) ?_;simp only [Act.put,List.setIfInBounds_toArray,List.set_cons_succ,List.set_cons_zero];refine bJ 6 161 (by kernel_rfl) rfl (by kernel_rfl) (by kernel_rfl) (f:=97) (args:=#[.slice a len cap,.int .i64 ((i+k:Nat):Int)]) (by kernel_rfl) ?_;refine (HAt.out (i+k) wr.drew (by omega) hwr.drew).mono ?_;rintro e v' ⟨rfl,hv'⟩;rw [hv',HZ.out];clear hv' v';refine ⟨_,rfl,fun _=>hF,?_⟩;simp only [Act.put,List.setIfInBounds_toArray,List.set_cons_succ,List.set_cons_zero];have m7:=(Below.refl wr.drew.heap.size wr.drew).alloc (Nat.le_refl _) (Obj.cells #[.int .i64 z] 2);have m67:Below wr.heap.size wr (wr.drew.alloc (Obj.cells #[.int .i64 z] 2)):=Below.step (Below.refl _ _).drew m7 (Nat.le_refl _);have hs67:sb+1≤wr.heap.size:=by omega
   refine fM 7 162 (.slice (some ⟨wr.drew.heap.size,0,none⟩) 1 1) (w':=wr.drew.alloc (Obj.cells #[.int .i64 z] 2)) (by kernel_rfl) rfl (by kernel_rfl) (by kernel_rfl) (by go_simp) (fun _=>HBo.out _ (m67.mono hs67)) ?_;simp only [Act.put,List.setIfInBounds_toArray,List.set_cons_succ,List.set_cons_zero];have O7:=ak HO.out m67;have W7:RowC (wr.drew.alloc (Obj.cells #[.int .i64 z] 2)) (some ⟨wr.drew.heap.size,0,none⟩) 1 1 (eO [z]):=(OwnC.new 2 1 wr.drew (eO [z]) 1 (by rfl) (by decide)).row;have s7:=m67.size;refine mI 8 163 (by kernel_rfl) rfl (by kernel_rfl) (by kernel_rfl) (.tmp 156) (.tmp 162) 60 (by kernel_rfl) 2 Tryz.underlying60 (.int .i64 0) 1 8 Tryz.infoI rfl (by decide) (sb+1) k _ (eO ((List.range k).map fun j=>atM zs (i+j))) (by kernel_rfl) O7 wr.drew.heap.size 0 1 1 (eO [z]) (by kernel_rfl) (by omega) W7 (sL _) (by omega) (by omega) (by omega) (sb+1) _ (Below.refl _ _) (Nat.le_refl _) ?_;intro g8 c8 v8 o8 m8;have B8:=HBo.out v8 ((m67.mono hs67).trans m8);refine ⟨fun _=>B8,?_⟩;simp only [Act.put,List.setIfInBounds_toArray,List.set_cons_succ,List.set_cons_zero];refine cJ 9 164 (.pointer (some ⟨sb,21,none⟩)) rfl (by kernel_rfl) (by kernel_rfl) (by kernel_rfl) (by kernel_rfl) rfl (fun _ _ _ h=>HQp.out _ _ _ _ _ h) (by kernel_rfl) (fun u=>by kernel_rfl) (.inr B8) (by kernel_rfl) ?_;simp only [Act.put,List.setIfInBounds_toArray,List.set_cons_succ,List.set_cons_zero];have HSt:Hid ((Instr.storeAt 60 (.pointer (some ⟨sb,21,none⟩)) (.slice (some ⟨g8,0,none⟩) (k+1) c8)).run Tryz.prog v8=.ok () (v8.setCell ⟨sb,21,none⟩ (.slice (some ⟨g8,0,none⟩) (k+1) c8))):=by
    have h1:=ag B8 21 c21;have h2:=au B8 21;show _=_;go_simp
   refine bL 10 rfl (T:=60) (x:=.tmp 164) (y:=.tmp 163) (by kernel_rfl) (by kernel_rfl) (by kernel_rfl) (by kernel_rfl) (b:=sb) (off:=21) (by kernel_rfl) (by kernel_rfl) HSt.out (.inl (by kernel_rfl)) ?_;refine bT (by kernel_rfl) ?_ _;go_wp2_with fail;have hg8:sb+1≤g8:=(eZ o8 ⟨g8,0,none⟩ rfl).1;refine ⟨⟨k+1,some ⟨g8,0,none⟩,c8,by omega,by go_num,?_,?_,?_⟩,?_⟩
   ·refine aq ?_ 21 _;have hG:=HG.out;exact ⟨m8.os.trans (m67.os.trans hG.os),m8.tape.trans (m67.tape.trans hG.tape),m8.output.trans (m67.output.trans hG.output),by have:=m8.size;omega,fun j hj hne=>(m8.block j (by omega)).trans ((m67.block j (by omega)).trans (hG.block j hj hne))⟩
   ·rw [HEq.out,show ((List.range (k+1)).map fun j=>atM zs (i+j)).length=k+1 by simp];exact cd B8 21 _
   ·have:=OwnC.gb o8 (aq (az v8 (some sb)) 21 (.slice (some ⟨g8,0,none⟩) (k+1) c8)) (by omega);have e:eO ((List.range k).map fun j=>atM zs (i+j))++eO [z]=eO ((List.range (k+1)).map fun j=>atM zs (i+j)):=by
     rw [kg,HZ.out];simp [eO]
    rw [e] at this;exact this
   ·simp [intOf];omega
  ·have hkn':k=n:=by omega
   subst hkn';have HEf:Hid (DecEnd w wr hb q h):=by
    have hG:=HG.out;have hE:=HE9.out;exact ⟨aw hE.box hG (by omega),aw hE.res hG (by omega),hE.low,dn hE.mem HB9.out (by decide) hG,hE.memb,dn hE.regs HB9.out (by decide) hG,hE.ks.set HB9.out (by decide) hG,hwr⟩
   go_upto_region 43 with fail;have hS:=mV q pa pc h ((List.range k).map fun j=>atM zs (i+j));have hR:=HEf.out.res;have HLd:Hid _:=aH (P:=Tryz.prog) (T:=62) HBx.out Tryz.underlying62 rfl (by rw [hS];exact lL);have HSr:Hid _:=bu (P:=Tryz.prog) (T:=62) (V:=cG q pa pc h ((List.range k).map fun j=>atM zs (i+j))) hR (by rw [hS];exact lL) (by rw [hS,fX]) (kG _ _ _ _ _);have e1:=a6 (V:=cG q pa pc h ((List.range k).map fun j=>atM zs (i+j))) hR (by rw [hS,fX]);have gR:=aM w.heap.size (cG q pa pc h ((List.range k).map fun j=>atM zs (i+j))).toList 0 wr wr (az wr _);have nR:=aZ (Nat.le_refl w.heap.size) (cG q pa pc h ((List.range k).map fun j=>atM zs (i+j))).toList 0 wr hwr;have HOf:Hid ((wr.setCells w.heap.size 0 (cG q pa pc h ((List.range k).map fun j=>atM zs (i+j))).toList).ownsRow (sb+1) 2 1 (.slice pa k pc) k (eO ((List.range k).map fun j=>atM zs (i+j)))):=cK HO.out gR (by omega);have HEg:Hid _:=(HEf.out.hart HKo.out hml hrl);go_wp2_with (first
    | ((with_reducible refine aK ?_ HLd.out ?_);(exact rfl))
    | ((with_reducible refine av ?_ ?_ HSr.out ?_);(exact rfl);(exact rfl)))
   rw [←HQ.out];refine dc (b:=w.heap.size) Tryz.results29 rfl (ba (P:=Tryz.prog) e1 Tryz.underlying62 rfl (by rw [hS];exact lL)) rfl ?_;rw [HPs.out];refine ⟨⟨q,pa,pc,rfl,HEg.out.1.gb gR (fun x hx=>by have:=HEf.out.above x hx;omega),HEg.out.2,?_⟩,nR⟩;have:=aX HOf.out (show w.heap.size≤sb+1 by omega);simp only [List.length_map,List.length_range];exact this
theorem oc (a:Option Addr) (len cap:Nat) (zs:List Int) (w:World) (hB:Byt w a len zs) (hl:len≤1048576):
 Calls Tryz.prog 29 #[.slice a len cap] w (lM w (fP zs) (ic zs)):=by
 have hb:=hB.2.1;refine uh a len cap zs w hB hl _ ?_;intro v hb' size n p u5 u15 u16 u17 u18 u19 u20 u21 u22 u23 u24 u25 u26 u27 u28 u29 u30 u31 u32 u33 u34 u35 u36 u37 u38 u39 u40 u41 u42 u43 u44 u45 u46 u47 u48 u49 u50 u51 u52 u53 u54 u55 u56 u57 u58 u59 u60 u61 u62 u63 u64 u65 u66 u67 u68 u69 u70 u71 u72 u73 u74 u75 u76 u77 u78 u79 u80 u81 u82 u83 u84 u85 hD har hcr hsz hn K hK;have h3:=ma hb 3;have hsz':64≤size∧size≤4096:=by omega
 have hko:kOk ⟨ay (atM zs 0),ay (atM zs 1),ay (atM zs 2)⟩:=⟨il _,il _,il _⟩;have hn2:n≤20000:=by rw [hn];unfold iV;omega
 refine vX a len cap zs w hB hl v hb' size n p u5 u15 u16 u17 u18 u19 u20 u21 u22 u23 u24 u25 u26 u27 u28 u29 u30 u31 u32 u33 u34 u35 u36 u37 u38 u39 u40 u41 u42 u43 u44 u45 u46 u47 u48 u49 u50 u51 u52 u53 u54 u55 u56 u57 u58 u59 u60 u61 u62 u63 u64 u65 u66 u67 u68 u69 u70 u71 u72 u73 u74 u75 u76 u77 u78 u79 u80 u81 u82 u83 u84 u85 _ _ _ _ _ _ _ hko hD har hcr hsz' hn2 _ ?_ K hK;intro v9 q mem i u5 u7 u9 u10 u11 u12 u15 u16 u17 u18 u19 u20 u21 u22 u23 u24 u25 u26 u27 u28 u29 u30 u31 u32 u33 u34 u35 u36 u37 u38 u39 u40 u41 u42 u43 u44 u45 u46 u47 u48 u49 u50 u51 u52 u53 u54 u55 u56 u57 u58 u59 u60 u61 u62 u63 u64 u65 u66 u67 u68 u69 u70 u71 u72 u73 u74 u75 u76 u77 u78 u79 u80 u81 u82 u83 u84 u85 u86 u87 u88 u89 u90 u91 u92 u93 u94 u95 u96 u97 u98 u99 u100 u101 u102 u103 u104 u105 u106 u107 u108 u109 u110 u111 u112 u113 u114 u115 u116 u117 u118 u119 u120 u121 u122 u123 u124 u125 u126 u127 u128 u129 u130 u131 u132 u133 u134 u135 u136 u137 u138 u139 u140 u141 u142 u143 u144 u145 u146 u147 hE hml hi hrun K2 hK2;have hmem:sn zs=(mem,i):=by unfold sn;rw [←hsz];exact hrun
 have hX:fP zs=⟨mem,iG zs,bY zs 7,iF (atM zs 4),atM zs 4/4%2 == 1,atM zs 4/8%2 == 1,if dO (bY zs 23)=true then bY zs 23 else 0,bY zs 15/4*4,0,iF (atM zs 4),0,0,⟨ay (atM zs 0),ay (atM zs 1),ay (atM zs 2)⟩⟩:=by
  unfold fP;rw [hmem]
 have hps:ic zs=((List.range n).map fun j=>atM zs (i+j)):=by
  unfold ic;rw [hmem,←hn]
 rw [hX,hps] at hK2 ⊢;exact wh a len cap zs w hB hl v9 hb' size n i q _ u5 u7 u9 u10 u11 u12 u15 u16 u17 u18 u19 u20 u21 u22 u23 u24 u25 u26 u27 u28 u29 u30 u31 u32 u33 u34 u35 u36 u37 u38 u39 u40 u41 u42 u43 u44 u45 u46 u47 u48 u49 u50 u51 u52 u53 u54 u55 u56 u57 u58 u59 u60 u61 u62 u63 u64 u65 u66 u67 u68 u69 u70 u71 u72 u73 u74 u75 u76 u77 u78 u79 u80 u81 u82 u83 u84 u85 u86 u87 u88 u89 u90 u91 u92 u93 u94 u95 u96 u97 u98 u99 u100 u101 u102 u103 u104 u105 u106 u107 u108 u109 u110 u111 u112 u113 u114 u115 u116 u117 u118 u119 u120 u121 u122 u123 u124 u125 u126 u127 u128 u129 u130 u131 u132 u133 u134 u135 u136 u137 u138 u139 u140 u141 u142 u143 u144 u145 u146 u147 hE hn2 hi hko (by show 0<mem.length;omega) (by show 0<(iG zs).length;simp [iG]) _ rfl K2 hK2
end Go.Proofs.YthekickjjaleaaaGreat

namespace Go.Proofs.YthekickjjaleaaaGreat
open Go.RowKit
set_option linter.unusedVariables false
theorem vg (v:World) (V:Array Value) (hs:V.size=22) (h1:V.all (·.oneCell')=true):
 ∃v',(Instr.storeAt 62 (.pointer (some ⟨v.heap.size,0,none⟩)) (.agg V)).run Tryz.prog (v.alloc (Obj.cells eB 62))=.ok () v'∧v'.heap[v.heap.size]?=some (.cells V 62 (0,0))∧v.heap.size<v'.heap.size∧Below v.heap.size v v':=by
 have a:=dr v eB 62;refine ⟨_,bu (P:=Tryz.prog) (T:=62) a.1 (by rw [hs];exact lL) (by rw [hs];rfl) h1,a6 a.1 (by rw [hs];rfl),?_,?_⟩
 ·rw [cF,a.2.1];exact Nat.lt_succ_self _
 ·exact aZ (Nat.le_refl _) _ _ _ a.2.2
theorem qe {P:Program} {ops:Array Oper} {Q:Exit→Act→World→Prop} {rest:List Oper} {a:Act} {d:Tmp} {T ty:TypeId} {x:Operand} {pos:String} {af:Array Edge} {g:Option (Nat × Bool)} {w:World} {b o:Nat} {V:Value} (hw:Region.wanted { dst:=some d,op:=.load T x,type:=ty,pos:=pos,after:=af,guard:=g } (yielded ops a.tmps)=true) (hx:a.eval x=.pointer (some ⟨b,o,none⟩)) (hl:(Instr.loadAt T (.pointer (some ⟨b,o,none⟩))).run P w=.ok V w)
 (h:wpList P ops Q rest (a.put (some d) V) w):wpList P ops Q ({ dst:=some d,op:=.load T x,type:=ty,pos:=pos,after:=af,guard:=g }::rest) a w:=
 wpList_step fun K hK=>by
  rw [if_pos hw];unfold Oper.wp execOp;simp only [hx,Sem.run_bind,hl,Result.andThen_ok,Sem.run_pure];exact hK _ _ h
theorem qf (v:World) (V:Array Value) (hs:V.size=21) (h1:V.all (·.oneCell')=true):
 ∃v',(Instr.storeAt 59 (.pointer (some ⟨v.heap.size,0,none⟩)) (.agg V)).run Tryz.prog (v.alloc (Obj.cells eu 59))=.ok () v'∧v'.heap[v.heap.size]?=some (.cells V 59 (0,0))∧v.heap.size<v'.heap.size∧Below v.heap.size v v':=by
 have a:=dr v eu 59;refine ⟨_,bu (P:=Tryz.prog) (T:=59) a.1 (by rw [hs];exact eV) (by rw [hs];rfl) h1,a6 a.1 (by rw [hs];rfl),?_,?_⟩
 ·rw [cF,a.2.1];exact Nat.lt_succ_self _
 ·exact aZ (Nat.le_refl _) _ _ _ a.2.2
theorem mh {v:World} {g:Nat} {V:Array Value} (hs:V.size=21) (h:v.heap[g]?=some (.cells V 59 (0,0))):(Instr.loadAt 59 (.pointer (some ⟨g,0,none⟩))).run Tryz.prog v=.ok (.agg V) v:=
 aH h Tryz.underlying59 rfl (by rw [hs];exact eV)
end Go.Proofs.YthekickjjaleaaaGreat

namespace Go.Proofs.YthekickjjaleaaaGreat
open Go.RowKit
set_option linter.unusedVariables false
attribute [local go_sem ↓] Go.wp_at_zero Go.wp_at_succ
theorem ux {zs:List Int} (hz:∀i:Nat,0≤zs[i]?.getD 0∧zs[i]?.getD 0≤255):∀y∈ic zs,0≤y∧y≤255:=by
 intro y hy;simp only [ic,List.mem_map] at hy;obtain ⟨k,_,rfl⟩:=hy;exact hz _
structure ReachS (w:World) (p:Nat) (f:Nat→Int) (k:Nat) (wr:World) (b2 b3 b4:Nat) (S:Array Value) (pa:Option Addr) (pc:Nat) (ps:List Int) (q:PtrM) (h:HartM):Prop where
 d:DrewN w p f k wr
 h2:wr.heap[b2]?=some (.cells eu 59 (0,0))
 h3:wr.heap[b3]?=some (.cells S 62 (0,0))
 pk:wr.ownsRow w.heap.size 2 1 (.slice pa ps.length pc) ps.length (eO ps)
 h4:wr.heap[b4]?=some (.cells (aA q h) 59 (0,0))
 hi:HartIn wr q h
 ok:HOk h
 ne:∀x,some x∈aN q→w.heap.size≤x.block∧x.block≠b2∧x.block≠b4
theorem ReachS.keep {w wr v:World} {p:Nat} {f:Nat→Int} {k b2 b3 b4:Nat} {S:Array Value} {pa:Option Addr} {pc:Nat} {ps:List Int} {q:PtrM} {h:HartM} (s:ReachS w p f k wr b2 b3 b4 S pa pc ps q h) (hp:p<w.heap.size) (hb:Below wr.heap.size wr v):ReachS w p f k v b2 b3 b4 S pa pc ps q h:=
 ⟨s.d.below (hb.mono s.d.2.size) hp,ab s.h2 hb (Array.getElem?_eq_some_iff.1 s.h2).1,ab s.h3 hb (Array.getElem?_eq_some_iff.1 s.h3).1,ak s.pk hb,ab s.h4 hb (Array.getElem?_eq_some_iff.1 s.h4).1,s.hi.keep hb,s.ok,s.ne⟩
theorem ReachS.draw {w wr v:World} {p:Nat} {f:Nat→Int} {k k' b2 b3 b4:Nat} {S:Array Value} {pa:Option Addr} {pc:Nat} {ps:List Int} {q:PtrM} {h:HartM} (s:ReachS w p f k wr b2 b3 b4 S pa pc ps q h) (hp:p<w.heap.size) (l2:w.heap.size≤b2) (l3:w.heap.size≤b3) (l4:w.heap.size≤b4) (d:DrewN wr p f k' v):ReachS w p f k' v b2 b3 b4 S pa pc ps q h:=
 ⟨s.d.trans d,aw s.h2 d.2 (by omega),aw s.h3 d.2 (by omega),cK s.pk d.2 hp,aw s.h4 d.2 (by omega),s.hi.gb d.2 (fun x hx=>by have:=s.ne x hx;omega),s.ok,s.ne⟩
theorem ReachS.next {w wr v:World} {p:Nat} {f:Nat→Int} {k b2 b3 b4:Nat} {S:Array Value} {pa:Option Addr} {pc:Nat} {ps:List Int} {q q':PtrM} {h h':HartM} (s:ReachS w p f k wr b2 b3 b4 S pa pc ps q h) (hp:p<w.heap.size) (l2:w.heap.size≤b2) (l4:w.heap.size≤b4) (n24:b2≠b4) (hb:Below wr.heap.size wr v) (hi:HartIn v q' h') (ok:HOk h') (ge:∀x,some x∈aN q'→wr.heap.size≤x.block):
 ∃v',(Instr.storeAt 59 (.pointer (some ⟨b4,0,none⟩)) (.agg (aA q' h'))).run Tryz.prog v=.ok () v'∧ReachS w p f k v' b2 b3 b4 S pa pc ps q' h':=by
 have s1:=s.keep hp hb;have r2:=(Array.getElem?_eq_some_iff.1 s.h2).1;have r4:=(Array.getElem?_eq_some_iff.1 s.h4).1;have rw:=s.d.2.size;obtain ⟨v',hs',h4',g', -⟩:=dx s1.h4 (aA q' h') eV rfl (eU _ _);have n34:b3≠b4:=fun e=>by
  have a:=s1.h3;rw [e,s1.h4] at a;cases a
 exact ⟨v',hs',s1.d.own g' l4 hp,aw s1.h2 g' n24,aw s1.h3 g' n34,dn s1.pk s1.h4 (by decide) g',h4',hi.gb g' (fun x hx=>by have:=ge x hx;omega),ok,fun x hx=>by have:=ge x hx;exact ⟨by omega,by omega,by omega⟩⟩
set_option maxRecDepth 20000 in
set_option maxHeartbeats 6400000 in
theorem uy (p:Nat) (f:Nat→Int) (k:Nat) (w:World) (hc:CurN w p f k):
 Calls Tryz.prog 61 #[.pointer (some ⟨p,0,none⟩)] w fun e w'=>∃(q:PtrM) (h:HartM) (k':Nat),e=.returned (.agg (aA q h))∧HartN w' p q h∧(∀x,some x∈aN q→w.heap.size≤x.block)∧DrewN w p f k' w':=by
 have hp:=hc.lt;have CS:Hid (∀(u:World) (g nn cp:Nat) (zs:List Int),Byt u (some ⟨g,0,none⟩) nn zs→nn≤1048576→Calls Tryz.prog 29 #[.slice (some ⟨g,0,none⟩) nn cp] u (lM u (fP zs) (ic zs))):=fun u g nn cp zs h1 h2=>oc _ nn cp zs u h1 h2;have CP:Hid (∀(q:PtrM) (h:HartM) (y:Int) (u:World),HartIn u q h→HOk h→(0≤y∧y≤255)→Calls Tryz.prog 50 #[.agg (aA q h),.bool false,.int .i64 y] u (iu u false y (ln false y h))):=fun q h y u h1 h2 h3=>sQ q h false y u h1 h2 h3;have SO:Hid (∀(y:Int) (h:HartM),(0≤y∧y≤255)→HOk h→HOk (ln false y h).h):=fun y h h1 h2=>(u4 false h1 h2).h;go_enter Tryz.func61,Tryz.ntmps61;go_upto_region 1 with fail;have F:=dr w eu 59;generalize w.alloc (Obj.cells eu 59)=v1 at F ⊢;obtain ⟨h2,l1,n1⟩:=F;have H2:Hid _:=h2;have d1:=(DrewN.refl hc).below n1 hp;clear h2 n1;go_wp2_with fail;refine (sY p f v1 ⟨d1.1.lt,k,DrewN.refl d1.1⟩).mono ?_;rintro e v2 ⟨g,nn,cp,⟨hn1,hn2⟩,rfl, -,k2,zs,o2⟩;replace H2:Hid _:=aw H2.out o2.d.2 (by omega);replace d1:=d1.trans o2.d;have yZ:=OwnB.byt o2.o o2.b;have hok:Hid (HOk (fP zs)):=vZ o2.b;have PB:Hid (∀y∈ic zs,0≤y∧y≤255):=ux o2.b;have pl:(ic zs).length≤20000:=by
  simp only [ic,List.length_map,List.length_range,iV];omega
 have s2:=o2.d.2.size;have CD:=CS.out v2 g nn cp zs yZ (by omega);clear o2 yZ CS;generalize fP zs=h0 at *;generalize ic zs=ps at *;go_wp2_with fail;refine CD.mono ?_;rintro e v3 ⟨⟨q,pa,pc,rfl,hi,hge,op⟩,n3⟩;replace H2:=ae H2 n3;have HI:Hid _:=hi;have HG:Hid (∀x,some x∈aN q→v2.heap.size≤x.block∧x.block<v3.heap.size):=fun x hx=>⟨hge x hx,hi.low x hx⟩;have OP:Hid (v3.ownsRow w.heap.size 2 1 (.slice pa ps.length pc) ps.length (eO ps)):=aX op (by omega);have s3:=n3.size;replace d1:=d1.below (n3.mono d1.2.size) hp;clear hi hge op n3 CD;obtain ⟨v4,hs4,P4,l4,n4⟩:=vg v3 (cG q pa pc h0 ps) rfl (kG _ _ _ _ _);have SH:Hid (((cG q pa pc h0 ps).toList.drop 0).take 21=(aA q h0).toList):=by show _=_;rfl
 have SP:Hid ((cG q pa pc h0 ps)[21]?=some (.slice pa ps.length pc)):=by show _=_;rfl
 have HS4:Hid _:=hs4;generalize cG q pa pc h0 ps=S at *;have H3:Hid _:=P4;replace H2:=ae H2 n4;replace HI:Hid _:=HI.out.keep n4;replace OP:Hid _:=ak OP.out n4;have s4:=n4.size;replace d1:=d1.below (n4.mono d1.2.size) hp;clear hs4 P4 n4;go_upto_region 2 with (first | ((with_reducible refine av ?_ ?_ HS4.out ?_);(exact rfl);(exact rfl)));clear HS4;have J3:Hid _:=cw (P:=Tryz.prog) (T:=59) H3.out Tryz.underlying59 rfl (o:=0) (aA q h0).toList eV SH.out rfl;rw [show (aA q h0).toList.toArray=aA q h0 from rfl] at J3;obtain ⟨v5,hs5,P5,l5,n5⟩:=qf v4 (aA q h0) rfl (eU _ _);have HS5:Hid _:=hs5;have K0:Hid (ReachS w p f k2 v5 w.heap.size v3.heap.size v4.heap.size S pa pc ps q h0):=⟨d1.below (n5.mono d1.2.size) hp,(ae H2 n5).out,(ae H3 n5).out,ak OP.out n5,P5,HI.out.keep n5,hok.out,fun x hx=>by
  have:=HG.out x hx;exact ⟨by omega,by omega,by omega⟩⟩
 clear hs5 P5 n5 SH HI HG hok OP H2 H3 d1;generalize aA q h0=A0 at *;go_upto_region 3 with (first | ((with_reducible refine aK ?_ J3.out ?_);(exact rfl)) | ((with_reducible refine av ?_ ?_ HS5.out ?_);(exact rfl);(exact rfl)));clear J3 HS5;have b12:w.heap.size<v3.heap.size:=by omega
 have b34:v3.heap.size<v4.heap.size:=l4;generalize hg4:v4.heap.size=b4 at *;generalize hg3:v3.heap.size=b3 at *;generalize hg2:w.heap.size=b2 at K0 b12 ⊢;simp only [Act.put];go_wp2_with fail;refine (bD p f k2 40 _ K0.out.d.1 (by omega) (by omega)).mono ?_;rintro e v6 ⟨y,k6, -,hy,rfl,d6⟩;replace K0:Hid _:=K0.out.draw hp (by omega) (by omega) (by omega) d6;clear d6;obtain ⟨N,hN⟩:∃N:Nat,(4+y:Int)=N:=⟨(4+y).toNat,by omega⟩;have bN:N≤50:=by omega
 go_wp2_with fail;clear hN;go_loopw [6] (fun ii wr=>∃(i:Nat) (q:PtrM) (h:HartM),i≤N∧ii=.int .i64 i∧ReachS w p f k6 wr b2 b3 b4 S pa pc ps q h) (fun ii _=>N-(intOf ii).toNat)
 case atStart=>exact ⟨0,q,h0,Nat.zero_le _,rfl,K0.out⟩
 case round=>
 clear K0;obtain ⟨i,q,h,hi,rfl,s⟩:=hrel;have HK:Hid _:=s;clear s;have c21:=ag HK.out.h3 21 SP.out;go_upto_region 5 with fail;go_cut [24] from 15 to 23 (fun s24 wx=>∃bb:Bool,s24=.bool bb∧(bb=true→i<N∧i<ps.length)∧wx=wr)
 case first=>
  by_cases hlt:i<N
  ·have e1:decide ((i:Int)<(N:Int))=true:=by simp;omega
   go_wp2_with fail;go_meet
   case rel=>exact ⟨_,rfl,(fun h=>⟨hlt,by have h':(i:Int)<(ps.length:Int):=(by simpa using h);omega⟩),rfl⟩
  ·have e1:decide ((i:Int)<(N:Int))=false:=by simp;omega
   go_wp2_with fail;go_meet
   case rel=>exact ⟨_,rfl,(fun h=>by cases h),rfl⟩
 case rest=>
 obtain ⟨bb,rfl,hbb,rfl⟩:=hcut;rename World=>wz;cases bb
 ·as_aux_lemma=>
   clear hbb c21;have J4:Hid _:=mh (V:=aA q h) rfl HK.out.h4;obtain ⟨vE,hsE,hE,gE, -⟩:=dx HK.out.h2 (aA q h) eV rfl (eU _ _);have HSE:Hid _:=hsE;have HhE:Hid _:=hE;have dE:=HK.out.d.own gE (show w.heap.size≤b2 by omega) hp;have HN:Hid (HartN vE p q h):=⟨HK.out.hi.gb gE (fun x hx=>(HK.out.ne x hx).2.1),fun x hx=>by have:=(HK.out.ne x hx).1;omega,HK.out.ok⟩;have HGE:Hid (∀x,some x∈aN q→w.heap.size≤x.block):=fun x hx=>(HK.out.ne x hx).1;have hAs:=dX q h;clear HK hE gE hsE;obtain ⟨AH,hAH⟩:∃A,aA q h=A:=⟨_,rfl⟩;have EAH:Hid _:=hAH;rw [hAH] at J4 HSE HhE hAs;clear hAH;go_wp2_with (first | ((with_reducible refine aK ?_ J4.out ?_);(exact rfl)) | ((with_reducible refine av ?_ ?_ HSE.out ?_);(exact rfl);(exact rfl)));have hL:=ba (P:=Tryz.prog) HhE.out Tryz.underlying59 rfl (by rw [hAs];exact eV);refine dc (b:=b2) Tryz.results61 rfl hL rfl ?_;exact ⟨q,h,k6,by rw [EAH.out],HN.out,HGE.out,dE⟩
 ·as_aux_lemma=>
   obtain ⟨hlN,hlt⟩:=hbb rfl;clear hbb;obtain ⟨y,hy⟩:∃y,ps[i]=y:=⟨_,rfl⟩;have by':0≤y∧y≤255:=by rw [←hy];exact PB.out _ (List.getElem_mem hlt)
   have pki:(eO ps)[i]?=some (.int .i64 y):=by
    rw [←hy];simp [eO,List.getElem?_eq_getElem hlt]
   obtain ⟨pg,hpg⟩:=oa HK.out.pk (by omega);subst hpg;have HPC:Hid (∀u,Below wz.heap.size wz u→u.cell? ⟨pg,i,none⟩=some (.int .i64 y)∧pg<u.heap.size):=fun u hu=>by
    have ho:=ak HK.out.pk hu;refine ⟨?_,(bV ho).2.2⟩;have:=aB ho i _ pki;simpa using this
   clear pki hy c21;go_upto_region 7 with fail;have HH4:Hid (∀u:World,u.heap[b4]?=some (.cells (aA q h) 59 (0,0))→(Instr.loadAt 59 (.pointer (some ⟨b4,0,none⟩))).run Tryz.prog u=.ok (.agg (aA q h)) u):=fun u hu=>mh rfl hu;have HSt:Hid (∀u,Below wz.heap.size wz u→Calls Tryz.prog 50 #[.agg (aA q h),.bool false,.int .i64 y] u (iu u false y (ln false y h))):=fun u hu=>CP.out q h y u (HK.out.hi.keep hu) HK.out.ok by';obtain ⟨X,hX⟩:∃X,ln false y h=X:=⟨_,rfl⟩;rw [hX] at HSt;have HXK:Hid (HOk X.h):=by rw [←hX];exact SO.out y h by' HK.out.ok
   clear hX;obtain ⟨AH,hAH⟩:∃A,aA q h=A:=⟨_,rfl⟩;rw [hAH] at HSt HH4;have H4':Hid (wz.heap[b4]?=some (.cells AH 59 (0,0))):=by rw [←hAH];exact HK.out.h4
   clear hAH;have HL3:Hid (∀u:World,u.heap[b3]?=some (.cells S 62 (0,0))→(Instr.loadAt 60 (.pointer (some ⟨b3,21,none⟩))).run Tryz.prog u=.ok (.slice (some ⟨pg,0,none⟩) ps.length pc) u):=fun u hu=>by
    have h1:=ag hu 21 SP.out;go_simp
   have HLp:Hid (∀u:World,u.cell? ⟨pg,i,none⟩=some (.int .i64 y)→(Instr.loadAt 2 (.pointer (some ⟨pg,i,none⟩))).run Tryz.prog u=.ok (.int .i64 y) u):=fun u hu=>by
    go_simp
   have lw3:b3<wz.heap.size:=(Array.getElem?_eq_some_iff.1 HK.out.h3).1;have lw4:b4<wz.heap.size:=(Array.getElem?_eq_some_iff.1 HK.out.h4).1;have HBo:Hid (∀u:World,Below wz.heap.size wz u→u.heap[b4]?=some (.cells AH 59 (0,0))∧u.heap[b3]?=some (.cells S 62 (0,0))∧u.cell? ⟨pg,i,none⟩=some (.int .i64 y)):=fun u hu=>⟨ab H4'.out hu lw4,ab HK.out.h3 hu lw3,(HPC.out u hu).1⟩;have nD:Below wz.heap.size wz wz.drew:=(Below.refl _ _).drew;have hF:=HBo.out wz.drew nD;refine be (fun u=>u.heap[b4]?=some (.cells AH 59 (0,0))∧u.heap[b3]?=some (.cells S 62 (0,0))∧u.cell? ⟨pg,i,none⟩=some (.int .i64 y)) 8 (by kernel_rfl) ?_;refine ah 0 27 (.agg AH) rfl (by kernel_rfl) (by kernel_rfl) (by kernel_rfl) (by kernel_rfl) rfl (by kernel_rfl) (fun _ _ _ h=>h) (by kernel_rfl) (fun u hu=>aQ rfl (HH4.out u hu.1)) hF (by kernel_rfl) ?_;simp only [Act.put,List.setIfInBounds_toArray,List.set_cons_succ,List.set_cons_zero];refine ah 1 28 (.pointer (some ⟨b3,21,none⟩)) rfl (by kernel_rfl) (by kernel_rfl) (by kernel_rfl) (by kernel_rfl) rfl (by kernel_rfl) (fun _ _ _ h=>h) (by kernel_rfl) (fun u hu=>by kernel_rfl) hF (by kernel_rfl) ?_;simp only [Act.put,List.setIfInBounds_toArray,List.set_cons_succ,List.set_cons_zero];refine ah 2 29 (.slice (some ⟨pg,0,none⟩) ps.length pc) rfl (by kernel_rfl) (by kernel_rfl) (by kernel_rfl) (by kernel_rfl) rfl (by kernel_rfl) (fun _ _ _ h=>h) (by kernel_rfl) (fun u hu=>aQ rfl (HL3.out u hu.2.1)) hF (by kernel_rfl) ?_;simp only [Act.put,List.setIfInBounds_toArray,List.set_cons_succ,List.set_cons_zero];refine ah 3 30 (.int .i64 (i:Int)) rfl (by kernel_rfl) (by kernel_rfl) (by kernel_rfl) (by kernel_rfl) rfl (by kernel_rfl) (fun _ _ _ h=>h) (by kernel_rfl) (fun u hu=>by kernel_rfl) hF (by kernel_rfl) ?_;simp only [Act.put,List.setIfInBounds_toArray,List.set_cons_succ,List.set_cons_zero];refine ah 4 31 (.pointer (some ⟨pg,i,none⟩)) rfl (by kernel_rfl) (by kernel_rfl) (by kernel_rfl) (by kernel_rfl) rfl (by kernel_rfl) (fun _ _ _ h=>h) (by kernel_rfl) (fun u hu=>by have h1:=hlt;go_simp) hF (by kernel_rfl) ?_;simp only [Act.put,List.setIfInBounds_toArray,List.set_cons_succ,List.set_cons_zero];refine ah 5 32 (.int .i64 y) rfl (by kernel_rfl) (by kernel_rfl) (by kernel_rfl) (by kernel_rfl) rfl (by kernel_rfl) (fun _ _ _ h=>h) (by kernel_rfl) (fun u hu=>aQ rfl (HLp.out u hu.2.2)) hF (by kernel_rfl) ?_;simp only [Act.put,List.setIfInBounds_toArray,List.set_cons_succ,List.set_cons_zero];refine bJ 6 33 (by kernel_rfl) rfl (by kernel_rfl) (by kernel_rfl) (f:=50) (args:=#[.agg AH,.bool false,.int .i64 y]) (by kernel_rfl) ?_;refine (HSt.out wz.drew nD).mono ?_;rintro e v7 ⟨⟨p',al',cl',rfl,hRI,hge,_⟩,n7'⟩;have n7:Below wz.heap.size wz v7:=Below.step nD n7' (Nat.le_refl _);refine ⟨_,rfl,fun _=>HBo.out v7 n7,?_⟩;simp only [Act.put,List.setIfInBounds_toArray,List.set_cons_succ,List.set_cons_zero];refine fM 7 34 (.agg (aA p' X.h)) (w':=v7) (by kernel_rfl) rfl (by kernel_rfl) (by kernel_rfl) (by kernel_rfl) (fun _=>HBo.out v7 n7) ?_;simp only [Act.put,List.setIfInBounds_toArray,List.set_cons_succ,List.set_cons_zero];obtain ⟨v8,hs8,S8⟩:=HK.out.next hp (by omega) (by omega) (by omega) n7 hRI.h HXK.out hge;have HS8:Hid _:=hs8;refine bL 8 rfl (T:=59) (x:=.tmp 4) (y:=.tmp 34) (by kernel_rfl) (by kernel_rfl) (by kernel_rfl) (by kernel_rfl) (b:=b4) (off:=0) (by kernel_rfl) (by kernel_rfl) HS8.out (.inl (by kernel_rfl)) ?_;refine bT (by kernel_rfl) ?_ _;have S9:Hid _:=S8;clear S8 hs8 HS8 hRI hge n7' n7 HK;generalize aD p' al' cl' false y X=RR;generalize aA p' X.h=AP;go_wp2_with fail;go_roundw
   case rel=>exact ⟨i+1,p',X.h,by omega,by go_num,S9.out⟩
   case measure=>simp [intOf];omega
end Go.Proofs.YthekickjjaleaaaGreat

namespace Go.Proofs.YthekickjjaleaaaGreat
open Go.RowKit
set_option linter.unusedVariables false
def jE:List Int→Int→Int
 | [],h=>h
 | c::r,h=>jE r (bits BinOp.and IntKind.i64 (h*131+c+7) 1073741823)
set_option maxHeartbeats 800000 in
theorem wH (a:Option Addr) (len cap:Nat) (zs:List Int) (w:World) (h:Byt w a len zs) (hl:len≤1048576):
 Calls Tryz.prog 60 #[.slice a len cap] w fun e w'=>
  e=.returned (.pointer (some ⟨w.heap.size,0,none⟩))∧CurN w' w.heap.size (mW zs (jE zs (54321+(len:Int)))) 0∧Below w.heap.size w w':=by
 have HB:Hid (Byt w a len zs):=h;obtain ⟨h1,h2,h3⟩:=h;have HZ:Hid (∀(k:Nat) (hk:k<len) (x:Int),jE (zs.drop k) x=jE (zs.drop (k+1)) (bits BinOp.and IntKind.i64 (x*131+zs[k]?.getD 0+7) 1073741823)):=fun k hk x=>by
  rw [List.drop_eq_getElem_cons (show k<zs.length by omega),jE,List.getElem?_eq_getElem (show k<zs.length by omega)];rfl
 obtain ⟨X,hX⟩:∃X,jE zs (54321+(len:Int))=X:=⟨_,rfl⟩;have HX:Hid _:=hX;rw [hX];go_enter Tryz.func60,Tryz.ntmps60;go_wp2_with fail
 go_loop [3,4] (fun hh i=>∃(x:Int) (k:Nat),k≤len∧(0≤x∧x≤1073741823)∧hh=.int .i64 x∧i=.int .i64 k∧jE (zs.drop k) x=X) (fun _ i=>len-(intOf i).toNat)
 case atStart=>exact ⟨_,0,Nat.zero_le _,by omega,rfl,rfl,by rw [List.drop_zero];exact HX.out⟩
 case round=>
  obtain ⟨x,k,hk,bx,rfl,rfl,hs⟩:=hrel;have HS:Hid _:=hs;clear hs;by_cases hlt:k<len
  ·rcases h3 with h3 | ⟨b,off,rfl,hbw,hc⟩
   ·omega
   have g1:=hc k hlt;have g4:=h2 k;have HQ:=HZ.out k hlt x;obtain ⟨z,hz⟩:∃z,zs[k]?.getD 0=z:=⟨_,rfl⟩;rw [hz] at g1 g4 HQ;have HN:Hid (jE (zs.drop (k+1)) (bits BinOp.and IntKind.i64 (x*131+z+7) 1073741823)=X):=by
    show _=_;rw [←HQ,HS.out]
   have bN:=iH (x*131+z+7) 1073741823 (by omega) (by omega);clear hc h2 HQ hz;go_wp2
   go_round
   case rel=>exact ⟨_,k+1,by omega,bN,rfl,by go_num,HN.out⟩
   case measure=>simp [intOf];omega
  ·have HA:Hid (0<len→∀x,a=some x→x.block<w.heap.size):=by
    intro hp y hy;rcases h3 with h3 | ⟨b,off,rfl,hbw,hc⟩
    ·omega
    ·cases hy;exact hbw
   have hx:x=X:=by
    rw [←HS.out,List.drop_of_length_le (by omega),jE]
   subst hx;clear h2 h3;go_wp2;go_ret;have n1:=(Below.refl w.heap.size w).alloc (Nat.le_refl _) (Obj.cells #[Value.slice a len cap,Value.int IntKind.i64 0,Value.int IntKind.i64 x] 237);exact ⟨rfl,⟨a,len,cap,zs,x,rfl,by rw [Nat.zero_min];exact heap_alloc_new _ _,HB.out.keep n1,HA.out,hl⟩,n1⟩
end Go.Proofs.YthekickjjaleaaaGreat
