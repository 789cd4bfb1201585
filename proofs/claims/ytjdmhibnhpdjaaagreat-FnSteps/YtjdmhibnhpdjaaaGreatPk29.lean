import Derived.Test.YtjdmhibnhpdjaaaGreatPk28
namespace Go.Proofs.YtjdmhibnhpdjaaaGreat
open Go.RowKit
set_option linter.unusedVariables false
set_option maxHeartbeats 6400000
set_option maxRecDepth 20000
section
attribute [local go_sem ↓] Go.wp_at_zero Go.wp_at_succ
theorem zJ (zs:List Int):∀u∈dB zs,u.oneCell'=true:=by
 intro u hu;simp only [dB,List.mem_map] at hu;obtain ⟨z,_,rfl⟩:=hu;rfl
theorem DecEnd.above {w v:World} {hb:Nat} {q:PtrM} {h:HartM} (d:DecEnd w v hb q h):∀x,some x∈aH q->w.heap.size+1<=x.block:=by
 intro x hx;have:=d.low;simp only [aH,List.mem_cons,List.not_mem_nil,or_false] at hx;rcases hx with hx | hx | hx | hx | hx
 ·have:=(jR d.mem x hx.symm).1;omega
 ·have:=(jR d.regs x hx.symm).1;omega
 ·exact (d.ks.ptrs x (.inl hx.symm)).1
 ·exact (d.ks.ptrs x (.inr (.inl hx.symm))).1
 ·exact (d.ks.ptrs x (.inr (.inr hx.symm))).1
theorem dC {e:TypeId} {size base n c:Nat} {w:World} {a:Option Addr} {cs:List Value} (h:w.ownsRow base e size (.slice a n c) n cs) (hn:0<n):∃g,a=some (AD g 0):=by
 rcases h.2 with ⟨_,h2⟩ | ⟨g,cap,cur,h1,_⟩
 ·omega
 ·simp only [Value.slice.injEq] at h1;exact ⟨g,h1.1⟩
theorem DecEnd.hart {w v:World} {hb:Nat} {q:PtrM} {h:HartM} (d:DecEnd w v hb q h) (hk:kOk h.k) (hm:0<h.mem.length) (hr:0<h.regs.length):HartIn v q h∧∀x,some x∈aH q->w.heap.size<=x.block:=by
 obtain ⟨g1,e1⟩:=dC d.mem hm;obtain ⟨g2,e2⟩:=dC d.regs hr;have om:=d.mem;have og:=d.regs;rw [e1] at om;rw [e2] at og;have f1:=OwnC.facts om;have f2:=OwnC.facts og;refine ⟨⟨?_,?_,dq d.regs,?_,?_,d.ks.at hk,?_⟩,fun x hx=>by have:=d.above x hx;omega⟩
 ·rw [e1];exact OwnB.byt (e:=5) (base:=hb+1) om (ax d.memb)
 ·simp only [maxLen] at f1;omega
 ·simp only [maxLen] at f2;omega
 ·rw [e2];exact ⟨fun h0=>(by cases h0),fun x hx=>(by cases hx;rfl)⟩
 ·intro x hx;simp only [aH,List.mem_cons,List.not_mem_nil,or_false] at hx;rcases hx with hx | hx | hx | hx | hx
  ·exact (jR d.mem x hx.symm).2
  ·exact (jR d.regs x hx.symm).2
  ·exact (d.ks.ptrs x (.inl hx.symm)).2
  ·exact (d.ks.ptrs x (.inr (.inl hx.symm))).2
  ·exact (d.ks.ptrs x (.inr (.inr hx.symm))).2
theorem DW (a:Option Addr) (len cap:Nat) (zs:List Int) (w:World) (hB:Byt w a len zs) (hl:len<=1048576) (v:World) (hb size n i:Nat) (q:PtrM) (h:HartM) (u5 u7 u9 u10 u11 u12 u15 u16 u17 u18 u19 u20 u21 u22 u23 u24 u25 u26 u27 u28 u29 u30 u31 u32 u33 u34 u35 u36 u37 u38 u39 u40 u41 u42 u43 u44 u45 u46 u47 u48 u49 u50 u51 u52 u53 u54 u55 u56 u57 u58 u59 u60 u61 u62 u63 u64 u65 u66 u67 u68 u69 u70 u71 u72 u73 u74 u75 u76 u77 u78 u79 u80 u81 u82 u83 u84 u85 u86 u87 u88 u89 u90 u91 u92 u93 u94 u95 u96 u97 u98 u99 u100 u101 u102 u103 u104 u105 u106 u107 u108 u109 u110 u111 u112 u113 u114 u115 u116 u117 u118 u119 u120 u121 u122 u123 u124 u125 u126 u127 u128 u129 u130 u131 u132 u133 u134 u135 u136 u137 u138 u139 u140 u141 u142 u143 u144 u145 u146 u147:Value) (hE:DecEnd w v hb q h) (hn:n<=20000) (hi:i<=65878) (hko:kOk h.k) (hml:0<h.mem.length) (hrl:0<h.regs.length) (ps:List Int) (hps:ps=((List.range n).map fun j=>atM zs (i+j)))
 (K:Act->World->Prop) (hK:∀aa ww,(jy 19 (ky Tryz.f14)).wp Tryz.prog (bodyPost Tryz.prog Tryz.f14 (se w h ps)) aa ww->K aa ww):
 (ka (jy 18 (ky Tryz.f14))).wp Tryz.prog (Exit.then K (bodyPost Tryz.prog Tryz.f14 (se w h ps))) ⟨#[.slice a len cap,undef,PT w.heap.size 0,PT hb 0,VI (size:Nat),u5,VI (n:Nat),u7,VI (i:Nat),u9,u10,u11,u12,undef,undef,u15,u16,u17,u18,u19,u20,u21,u22,u23,u24,u25,u26,u27,u28,u29,u30,u31,u32,u33,u34,u35,u36,u37,u38,u39,u40,u41,u42,u43,u44,u45,u46,u47,u48,u49,u50,u51,u52,u53,u54,u55,u56,u57,u58,u59,u60,u61,u62,u63,u64,u65,u66,u67,u68,u69,u70,u71,u72,u73,u74,u75,u76,u77,u78,u79,u80,u81,u82,u83,u84,u85,u86,u87,u88,u89,u90,u91,u92,u93,u94,u95,u96,u97,u98,u99,u100,u101,u102,u103,u104,u105,u106,u107,u108,u109,u110,u111,u112,u113,u114,u115,u116,u117,u118,u119,u120,u121,u122,u123,u124,u125,u126,u127,u128,u129,u130,u131,u132,u133,u134,u135,u136,u137,u138,u139,u140,u141,u142,u143,u144,u145,u146,u147,undef,undef,undef,undef,undef,undef,undef,undef,undef,undef,undef,undef,undef,undef,undef,undef,undef,undef],[]⟩ v:=by
 obtain ⟨Q,hQ⟩:∃Q,bodyPost Tryz.prog Tryz.f14 (se w h ps)=Q:=⟨_,rfl⟩;rw [hQ] at hK |-;have HQ:Hid _:=hQ;clear hQ;simp only [ka,jy,ky,Tryz.f14,Option.getD] at hK |-;have HQp:Hid (∀x (a:Act) d z w,Q (.panic x) (a.put d z) w->Q (.panic x) a w):=by
  show ∀x (a:Act) d z w,Q (.panic x) (a.put d z) w->Q (.panic x) a w;rw [<-HQ.out];exact fun _ _ d _ _ h=>by cases d <;> exact h
 have HE:Hid _:=hE;have HPs:Hid _:=hps;have HKo:Hid _:=hko;have HB:Hid _:=hB;have HAt:Hid (∀(i:Nat) (u:World),i<=1073741824->Bw w u->Calls Tryz.prog 39 #[.slice a len cap,VI i] u fun e w'=>e=.returned (VI (atM zs i))∧w'=u):=fun i u hi hu=>rT a len cap zs i u (Byt.keep HB.out hu) hl (by omega);clear hB hps hko hE;have hlo:=HE.out.low;have hlt:hb<v.heap.size:=(hpl HE.out.box);have hHs:=kl q h;have HLv:Hid ((Instr.loadAt 37 (PT hb 0)).run Tryz.prog v=.ok (.agg #[.slice q.am h.mem.length q.cm,.slice q.ar h.regs.length q.cr,VU h.pc,VI h.mode,.bool h.sum,.bool h.mxr,VU h.satp,VU h.tvec,VU h.epc,VI h.emode,VI h.cause,VU h.tval,VI h.k.i.sets,VI h.k.i.ways,.slice q.a1 h.k.i.es.length q.c1,VI h.k.d.sets,VI h.k.d.ways,.slice q.a2 h.k.d.es.length q.c2,VI h.k.p.sets,VI h.k.p.ways,.slice q.a3 h.k.p.es.length q.c3]) v):=iA (P:=Tryz.prog) (T:=37) HE.out.box Tryz.underlying37 rfl (by rw [hHs];exact kq);have a9:=iV v dI 40;have hS9:=tl q none 0 h [];have HS9:Hid _:=iC (P:=Tryz.prog) (T:=40) (V:=eE q none 0 h []) a9.1 (by rw [hS9];exact oZ) (by rw [hS9,mE]) (mW _ _ _ _ _);have HB9:Hid _:=fG (V:=eE q none 0 h []) a9.1 (by rw [hS9,mE]);have n9:=dU (Nat.le_refl v.heap.size) (eE q none 0 h []).toList 0 _ a9.2.2;have s9:((v.alloc (Obj.cells dI 40)).setCells v.heap.size 0 (eE q none 0 h []).toList).heap.size=v.heap.size+1:=by rw [jw,a9.2.1]
 have HAg:Hid (eE q none 0 h []=#[.slice q.am h.mem.length q.cm,.slice q.ar h.regs.length q.cr,VU h.pc,VI h.mode,.bool h.sum,.bool h.mxr,VU h.satp,VU h.tvec,VU h.epc,VI h.emode,VI h.cause,VU h.tval,VI h.k.i.sets,VI h.k.i.ways,.slice q.a1 h.k.i.es.length q.c1,VI h.k.d.sets,VI h.k.d.ways,.slice q.a2 h.k.d.es.length q.c2,VI h.k.p.sets,VI h.k.p.ways,.slice q.a3 h.k.p.es.length q.c3,SN]):=rfl;clear a9;go_upto_region 39 with (first
  | ((with_reducible refine iE ?_ HLv.out ?_);(exact rfl))
  | ((with_reducible refine it ?_ ?_ HS9.out ?_);(exact rfl);(exact rfl)))
 have hw9:=bst HE.out.below n9;have HE9:Hid (DecEnd w ((v.alloc (Obj.cells dI 40)).setCells v.heap.size 0 (eE q none 0 h []).toList) hb q h):=
  ⟨ae HE.out.box n9 hlt,ae HE.out.res n9 (by omega),HE.out.low,ab HE.out.mem n9,HE.out.memb,ab HE.out.regs n9,HE.out.ks.keep n9,hw9⟩
 generalize (v.alloc (Obj.cells dI 40)).setCells v.heap.size 0 (eE q none 0 h []).toList=v9 at HB9 s9 hw9 HE9 |-;clear HS9 HLv n9 HAg HE;generalize hsb:v.heap.size=sb at HB9 s9 hlt |-;clear hsb;go_wp2;go_loopw [14] (fun kv wr=>∃(k:Nat) (pa:Option Addr) (pc:Nat),k<=n∧kv=VI k∧v9.grownBy wr (some sb)∧wr.heap[sb]?=some (.cells (eE q pa pc h ((List.range k).map fun j=>atM zs (i+j))) 40 (0,0))∧wr.ownsRow (sb+1) 2 1 (.slice pa k pc) k (dB ((List.range k).map fun j=>atM zs (i+j)))) (fun kv _=>n-(intOf kv).toNat)
 case atStart=>exact ⟨0,none,0,Nat.zero_le _,rfl,aM _ _,HB9.out,World.ownsRow_nil _ _ _ _⟩
 case round=>
  obtain ⟨k,pa,pc,hk,rfl,hG,hBx,hO⟩:=hrel;have HG:Hid _:=hG;have HBx:Hid _:=hBx;have HO:Hid _:=hO;have hgs:=hG.size;have c21:(eE q pa pc h ((List.range k).map fun j=>atM zs (i+j)))[21]?=some (.slice pa k pc):=by
   show some (Value.slice pa ((List.range k).map fun j=>atM zs (i+j)).length pc)=_;simp
  have hwr:Bw w wr:=hw9.trans ⟨hG.os,hG.tape,hG.output,hG.size,fun j hj=>hG.block j (by omega) (by simp;omega)⟩;clear hG hBx hO;by_cases hkn:k<n
  ·go_upto_region 42 with fail;obtain ⟨z,hz⟩:∃z,atM zs (i+k)=z:=⟨_,rfl⟩;have HZ:Hid _:=hz;clear hz;have HL1:Hid (∀u:World,u.heap[sb]?=some (.cells (eE q pa pc h ((List.range k).map fun j=>atM zs (i+j))) 40 (0,0))->(Instr.loadAt 38 (PT sb 21)).run Tryz.prog u=.ok (.slice pa k pc) u):=fun u hu=>by
    have h1:=gX hu 21 c21;go_simp
   have HBo:Hid (∀(u:World),Below (sb+1) wr u->u.heap[sb]?=some (.cells (eE q pa pc h ((List.range k).map fun j=>atM zs (i+j))) 40 (0,0))):=fun u hu=>(hu.block sb (by omega)).trans HBx.out;have HEq:Hid (∀pa' pc',eE q pa' pc' h ((List.range (k+1)).map fun j=>atM zs (i+j))=(eE q pa pc h ((List.range k).map fun j=>atM zs (i+j))).setIfInBounds 21 (.slice pa' ((List.range (k+1)).map fun j=>atM zs (i+j)).length pc')):=fun pa' pc'=>rfl;generalize eE q pa pc h ((List.range k).map fun j=>atM zs (i+j))=BX at HL1 HBo c21 HEq;have hF:wr.drew.heap[sb]?=some (.cells BX 40 (0,0)):=HBo.out wr brf;refine ip (fun u=>u.heap[sb]?=some (.cells BX 40 (0,0))) 10 ?_;refine ic 0 155 (PT sb 21) rfl hF ?_ (hQ:=hqp HQp)
   go_frame
   refine ic 1 156 (.slice pa k pc) rfl hF ?_ (hQ:=hqp HQp) (hy:=fun u hu=>iw rfl (HL1.out u hu));refine ic 2 157 (.slice a len cap) rfl hF ?_ (hQ:=hqp HQp);refine ic 3 158 (VI (i:Nat)) rfl hF ?_ (hQ:=hqp HQp);refine ic 4 159 (VI (k:Nat)) rfl hF ?_ (hQ:=hqp HQp)
   go_frame
   refine ic 5 160 (VI ((i+k:Nat):Int)) rfl hF ?_ (hQ:=hqp HQp) (hy:=fun u hu=>(by go_simp;try exact (IntKind.wrap_i64 _).trans (by omega)))
   go_frame
   refine jD 6 161 rfl (f:=39) (args:=#[.slice a len cap,VI ((i+k:Nat):Int)]) ?_;refine (HAt.out (i+k) wr.drew (by omega) hwr.drew).mono ?_;rintro e v' ⟨rfl,hv'⟩;rw [hv',HZ.out];clear hv' v';refine ⟨_,rfl,fun _=>hF,?_⟩
   go_frame
   have m7:=(Below.refl wr.drew.heap.size wr.drew).alloc nle (Obj.cells #[VI z] 2);have m67:Bw wr (wr.drew.alloc (Obj.cells #[VI z] 2)):=bst (brf).drew m7;have hs67:sb+1<=wr.heap.size:=by omega
   refine F0 7 162 (SL wr.drew.heap.size 1 1) (w':=wr.drew.alloc (Obj.cells #[VI z] 2)) rfl (fun _=>HBo.out _ (m67.mono hs67)) ?_ (he:=by go_simp)
   go_frame
   have O7:=ab HO.out m67;have W7:RowC (wr.drew.alloc (Obj.cells #[VI z] 2)) (some (AD wr.drew.heap.size 0)) 1 1 (dB [z]):=(OwnC.new 2 1 wr.drew (dB [z]) 1 (by rfl) (by decide)).row;have s7:=m67.size;refine sX 8 163 (by kernel_rfl) rfl (by kernel_rfl) (by kernel_rfl) (.tmp 156) (.tmp 162) 38 (by kernel_rfl) 2 Tryz.underlying38 (VI 0) 1 8 Tryz.infoI rfl (by decide) (sb+1) k _ (dB ((List.range k).map fun j=>atM zs (i+j))) (by kernel_rfl) O7 wr.drew.heap.size 0 1 1 (dB [z]) (by kernel_rfl) (by omega) W7 (zJ _) (by omega) (by omega) (by omega) (sb+1) _ brf nle ?_;intro g8 c8 v8 o8 m8;have B8:=HBo.out v8 ((m67.mono hs67).trans m8);refine ⟨fun _=>B8,?_⟩
   go_frame
   refine kM 9 164 (PT sb 21) rfl (.inr B8) ?_ (hQ:=hqp HQp)
   go_frame
   have HSt:Hid ((Instr.storeAt 38 (PT sb 21) (SL g8 (k+1) c8)).run Tryz.prog v8=.ok () (v8.setCell (AD sb 21) (SL g8 (k+1) c8))):=by
    have h1:=gX B8 21 c21;have h2:=ie B8 21;show _=_;go_simp
   refine fe 10 164 163 rfl HSt.out ?_;refine dQ ?_;go_wp2_with fail;have hg8:sb+1<=g8:=(jR o8 (AD g8 0) rfl).1;refine ⟨⟨k+1,some (AD g8 0),c8,by omega,by go_num,?_,?_,?_⟩,?_⟩
   ·refine hZ ?_ 21 _;have hG:=HG.out;exact ⟨m8.os.trans (m67.os.trans hG.os),m8.tape.trans (m67.tape.trans hG.tape),m8.output.trans (m67.output.trans hG.output),by have:=m8.size;omega,fun j hj hne=>(m8.block j (by omega)).trans ((m67.block j (by omega)).trans (hG.block j hj hne))⟩
   ·rw [HEq.out,show ((List.range (k+1)).map fun j=>atM zs (i+j)).length=k+1 by simp];exact iI B8 21 _
   ·have:=OwnC.gb o8 (hZ (aM v8 (some sb)) 21 (SL g8 (k+1) c8)) (by omega);have e:dB ((List.range k).map fun j=>atM zs (i+j))++dB [z]=dB ((List.range (k+1)).map fun j=>atM zs (i+j)):=by
     rw [mg,HZ.out];simp [dB]
    rw [e] at this;exact this
   ·simp [intOf];omega
  ·have hkn':k=n:=by omega
   subst hkn';have HEf:Hid (DecEnd w wr hb q h):=by
    have hG:=HG.out;have hE:=HE9.out;exact ⟨aL hE.box hG (by omega),aL hE.res hG (by omega),hE.low,ak hE.mem HB9.out (by decide) hG,hE.memb,ak hE.regs HB9.out (by decide) hG,hE.ks.set HB9.out (by decide) hG,hwr⟩
   go_upto_region 43 with fail;have hS:=tl q pa pc h ((List.range k).map fun j=>atM zs (i+j));have hR:=HEf.out.res;have HLd:Hid _:=iA (P:=Tryz.prog) (T:=40) HBx.out Tryz.underlying40 rfl (by rw [hS];exact oZ);have HSr:Hid _:=iC (P:=Tryz.prog) (T:=40) (V:=eE q pa pc h ((List.range k).map fun j=>atM zs (i+j))) hR (by rw [hS];exact oZ) (by rw [hS,mE]) (mW _ _ _ _ _);have e1:=fG (V:=eE q pa pc h ((List.range k).map fun j=>atM zs (i+j))) hR (by rw [hS,mE]);have gR:=iq w.heap.size (eE q pa pc h ((List.range k).map fun j=>atM zs (i+j))).toList 0 wr wr (aM wr _);have nR:=dU (Nat.le_refl w.heap.size) (eE q pa pc h ((List.range k).map fun j=>atM zs (i+j))).toList 0 wr hwr;have HOf:Hid ((wr.setCells w.heap.size 0 (eE q pa pc h ((List.range k).map fun j=>atM zs (i+j))).toList).ownsRow (sb+1) 2 1 (.slice pa k pc) k (dB ((List.range k).map fun j=>atM zs (i+j)))):=aD HO.out gR (by omega);have HEg:Hid _:=(HEf.out.hart HKo.out hml hrl);go_wp2_with (first
    | ((with_reducible refine iE ?_ HLd.out ?_);(exact rfl))
    | ((with_reducible refine it ?_ ?_ HSr.out ?_);(exact rfl);(exact rfl)))
   rw [<-HQ.out];refine jE (b:=w.heap.size) Tryz.results14 rfl (iH (P:=Tryz.prog) e1 Tryz.underlying40 rfl (by rw [hS];exact oZ)) rfl ?_;rw [HPs.out];refine ⟨⟨q,pa,pc,rfl,HEg.out.1.gb gR (fun x hx=>by have:=HEf.out.above x hx;omega),HEg.out.2,?_⟩,nR⟩;have:=ir HOf.out (show w.heap.size<=sb+1 by omega);simp only [List.length_map,List.length_range];exact this
theorem tO (a:Option Addr) (len cap:Nat) (zs:List Int) (w:World) (hB:Byt w a len zs) (hl:len<=1048576):
 Calls Tryz.prog 14 #[.slice a len cap] w (se w (iY zs) (jk zs)):=by
 have hb:=hB.2.1;refine Bo a len cap zs w hB hl _ ?_;intro v hb' size n p u5 u15 u16 u17 u18 u19 u20 u21 u22 u23 u24 u25 u26 u27 u28 u29 u30 u31 u32 u33 u34 u35 u36 u37 u38 u39 u40 u41 u42 u43 u44 u45 u46 u47 u48 u49 u50 u51 u52 u53 u54 u55 u56 u57 u58 u59 u60 u61 u62 u63 u64 u65 u66 u67 u68 u69 u70 u71 u72 u73 u74 u75 u76 u77 u78 u79 u80 u81 u82 u83 u84 u85 hD har hcr hsz hn K hK;have h3:=su hb 3;have hsz':64<=size∧size<=4096:=by omega
 have hko:kOk ⟨gY (atM zs 0),gY (atM zs 1),gY (atM zs 2)⟩:=⟨nH _,nH _,nH _⟩;have hn2:n<=20000:=by rw [hn];unfold mu;omega
 refine DN a len cap zs w hB hl v hb' size n p u5 u15 u16 u17 u18 u19 u20 u21 u22 u23 u24 u25 u26 u27 u28 u29 u30 u31 u32 u33 u34 u35 u36 u37 u38 u39 u40 u41 u42 u43 u44 u45 u46 u47 u48 u49 u50 u51 u52 u53 u54 u55 u56 u57 u58 u59 u60 u61 u62 u63 u64 u65 u66 u67 u68 u69 u70 u71 u72 u73 u74 u75 u76 u77 u78 u79 u80 u81 u82 u83 u84 u85 _ _ _ _ _ _ _ hko hD har hcr hsz' hn2 _ ?_ K hK;intro v9 q mem i u5 u7 u9 u10 u11 u12 u15 u16 u17 u18 u19 u20 u21 u22 u23 u24 u25 u26 u27 u28 u29 u30 u31 u32 u33 u34 u35 u36 u37 u38 u39 u40 u41 u42 u43 u44 u45 u46 u47 u48 u49 u50 u51 u52 u53 u54 u55 u56 u57 u58 u59 u60 u61 u62 u63 u64 u65 u66 u67 u68 u69 u70 u71 u72 u73 u74 u75 u76 u77 u78 u79 u80 u81 u82 u83 u84 u85 u86 u87 u88 u89 u90 u91 u92 u93 u94 u95 u96 u97 u98 u99 u100 u101 u102 u103 u104 u105 u106 u107 u108 u109 u110 u111 u112 u113 u114 u115 u116 u117 u118 u119 u120 u121 u122 u123 u124 u125 u126 u127 u128 u129 u130 u131 u132 u133 u134 u135 u136 u137 u138 u139 u140 u141 u142 u143 u144 u145 u146 u147 hE hml hi hrun K2 hK2;have hmem:tp zs=(mem,i):=by unfold tp;rw [<-hsz];exact hrun
 have hX:iY zs=⟨mem,mU zs,jb zs 7,iS (atM zs 4),atM zs 4/4%2 == 1,atM zs 4/8%2 == 1,if dt (jb zs 23)=true then jb zs 23 else 0,jb zs 15/4*4,0,iS (atM zs 4),0,0,⟨gY (atM zs 0),gY (atM zs 1),gY (atM zs 2)⟩⟩:=by
  unfold iY;rw [hmem]
 have hps:jk zs=((List.range n).map fun j=>atM zs (i+j)):=by
  unfold jk;rw [hmem,<-hn]
 rw [hX,hps] at hK2 |-;exact DW a len cap zs w hB hl v9 hb' size n i q _ u5 u7 u9 u10 u11 u12 u15 u16 u17 u18 u19 u20 u21 u22 u23 u24 u25 u26 u27 u28 u29 u30 u31 u32 u33 u34 u35 u36 u37 u38 u39 u40 u41 u42 u43 u44 u45 u46 u47 u48 u49 u50 u51 u52 u53 u54 u55 u56 u57 u58 u59 u60 u61 u62 u63 u64 u65 u66 u67 u68 u69 u70 u71 u72 u73 u74 u75 u76 u77 u78 u79 u80 u81 u82 u83 u84 u85 u86 u87 u88 u89 u90 u91 u92 u93 u94 u95 u96 u97 u98 u99 u100 u101 u102 u103 u104 u105 u106 u107 u108 u109 u110 u111 u112 u113 u114 u115 u116 u117 u118 u119 u120 u121 u122 u123 u124 u125 u126 u127 u128 u129 u130 u131 u132 u133 u134 u135 u136 u137 u138 u139 u140 u141 u142 u143 u144 u145 u146 u147 hE hn2 hi hko (by show 0<mem.length;omega) (by show 0<(mU zs).length;simp [mU]) _ rfl K2 hK2
end
theorem eR {e:TypeId} {size base n:Nat} {w w':World} {s t:Value} {cs:List Value} (h:w.ownsRow base e size s n cs) (hg:w.grownBy w' t.ownBlock) (ha:∀g,s.ownBlock=some g->t.ownBlock=some g->False):w'.ownsRow base e size s n cs:=by
 refine h.kept hg ?_;cases hs:s.ownBlock with
 | none=>exact .inl rfl
 | some g=>exact .inr fun he=>ha g hs he.symm
theorem lN {w w':World} {g:Nat} {o:Obj} {s:Value} (h:w.heap[g]?=some o) (hg:w.grownBy w' s.ownBlock) (hn:s.ownBlock≠some g):w'.heap[g]?=some o:=
 (hg.block g (hpl h) (fun e=>hn e.symm)).trans h
theorem cG {e e':TypeId} {size size' base base' n n':Nat} {w:World} {s s':Value} {cs cs':List Value} (h:w.ownsRow base e size s n cs) (h':w.ownsRow base' e' size' s' n' cs') (he:e≠e'):∀g,s.ownBlock=some g->s'.ownBlock=some g->False:=by
 intro g h1 h2;rcases h'.2 with ⟨h3,_⟩ | ⟨g',cap,cur,h3,_,h4,_⟩
 ·rw [h3] at h2;simp [Value.ownBlock] at h2
 ·rw [h3] at h2;simp only [Value.ownBlock] at h2;have hg:=Option.some.inj h2;subst hg;exact je h h4 (Ne.symm he) h1
theorem uf (v:World) (V:Array Value) (hs:V.size=22) (h1:V.all (·.oneCell')=true):
 ∃v',(Instr.storeAt 40 (PT v.heap.size 0) (.agg V)).run Tryz.prog (v.alloc (Obj.cells dI 40))=.ok () v'∧v'.heap[v.heap.size]?=some (.cells V 40 (0,0))∧v.heap.size<v'.heap.size∧Bw v v':=by
 have a:=iV v dI 40;refine ⟨_,iC (P:=Tryz.prog) (T:=40) a.1 (by rw [hs];exact oZ) (by rw [hs];rfl) h1,fG a.1 (by rw [hs];rfl),?_,?_⟩
 ·rw [jw,a.2.1];exact Nat.lt_succ_self _
 ·exact dU nle _ _ _ a.2.2
theorem we {P:Program} {ops:Array Oper} {Q:Exit->Act->World->Prop} {rest:List Oper} {a:Act} {d:Tmp} {T ty:TypeId} {x:Operand} {pos:String} {af:Array Edge} {g:Option (Nat × Bool)} {w:World} {b o:Nat} {V:Value} (hw:Region.wanted { dst:=some d,op:=.load T x,type:=ty,pos:=pos,after:=af,guard:=g } (yielded ops a.tmps)=true) (hx:a.eval x=PT b o) (hl:(Instr.loadAt T (PT b o)).run P w=.ok V w)
 (h:wpList P ops Q rest (a.put (some d) V) w):wpList P ops Q ({ dst:=some d,op:=.load T x,type:=ty,pos:=pos,after:=af,guard:=g }::rest) a w:=
 wpList_step fun K hK=>by
  rw [if_pos hw];unfold Oper.wp execOp;simp only [hx,Sem.run_bind,hl,Result.andThen_ok,Sem.run_pure];exact hK _ _ h
theorem wh (v:World) (V:Array Value) (hs:V.size=21) (h1:V.all (·.oneCell')=true):
 ∃v',(Instr.storeAt 37 (PT v.heap.size 0) (.agg V)).run Tryz.prog (v.alloc (Obj.cells kV 37))=.ok () v'∧v'.heap[v.heap.size]?=some (.cells V 37 (0,0))∧v.heap.size<v'.heap.size∧Bw v v':=by
 have a:=iV v kV 37;refine ⟨_,iC (P:=Tryz.prog) (T:=37) a.1 (by rw [hs];exact kq) (by rw [hs];rfl) h1,fG a.1 (by rw [hs];rfl),?_,?_⟩
 ·rw [jw,a.2.1];exact Nat.lt_succ_self _
 ·exact dU nle _ _ _ a.2.2
theorem wi {v:World} {g:Nat} {V:Array Value} (hs:V.size=21) (h:v.heap[g]?=some (.cells V 37 (0,0))):(Instr.loadAt 37 (PT g 0)).run Tryz.prog v=.ok (.agg V) v:=
 iA h Tryz.underlying37 rfl (by rw [hs];exact kq)
section
attribute [local go_sem ↓] Go.wp_at_zero Go.wp_at_succ
def evC (e:EvM):List Value:=[VU e.pc,VI e.mode,VI e.cause,VU e.tval]
def bR:List EvM->List Value
 | []=>[]
 | e::r=>evC e++bR r
theorem cK:∀a b:List EvM,bR (a++b)=bR a++bR b
 | [],b=>rfl
 | e::r,b=>by simp [bR,cK r b]
theorem AM (e:EvM):∀u∈evC e,u.oneCell'=true:=by
 intro u hu;simp [evC] at hu;rcases hu with rfl | rfl | rfl | rfl <;> rfl
def jA (ea:Option Addr) (n ec:Nat) (q:PtrM) (h:HartM):Array Value:=#[.slice ea n ec,.slice q.am h.mem.length q.cm,.slice q.ar h.regs.length q.cr,VU h.pc,VI h.mode,.bool h.sum,.bool h.mxr,VU h.satp,VU h.epc,VI h.emode,VI h.cause,VU h.tval]
abbrev pT:Array Value:=#[SN,SN,SN,VU 0,VI 0,.bool false,.bool false,VU 0,VU 0,VI 0,VI 0,VU 0]
theorem yQ (ea:Option Addr) (n ec:Nat) (q:PtrM) (h:HartM):(jA ea n ec q h).all (·.oneCell')=true:=by simp [jA,Value.oneCell']
theorem yR (plain:Bool) (ps:List Int) (i:Nat) (hi:i<ps.length) (h:HartM) (evs:List EvM):
 (evs++(kT plain (ps.drop i) h).1,(kT plain (ps.drop i) h).2)=((evs++[⟨h.pc,h.mode,(jK plain (ps[i]) h).cause,(jK plain (ps[i]) h).tval⟩])++(kT plain (ps.drop (i+1)) (jK plain (ps[i]) h).h).1,(kT plain (ps.drop (i+1)) (jK plain (ps[i]) h).h).2):=by
 rw [List.drop_eq_getElem_cons hi,kT];simp
theorem Dk {P:Program} (w:World) {ops:Array Oper} {rest:List Oper} {o:Oper} {a:Act} {Q:Exit->Act->World->Prop} (hgd:o.guard=none) (s x:Operand) (t:TypeId)
 (ho:o.op=.call { callee:=.builtin .append,args:=#[s,x],argTypes:=#[t,t] }) (e:TypeId) (ht:P.underlying t=some (.slice e)) (z:Value) (size bytes:Nat)
 (hi:(P.info? e).map (fun i=>(i.zero,i.size,i.bytes))=some (some z,size,bytes)) (hzs:z.cells.size=size) (hsz:0<size)
 (base n:Nat) (v:Value) (cs:List Value) (hs:a.eval s=v) (hown:w.ownsRow base e size v n cs)
 (b off m c:Nat) (ys:List Value) (hx:a.eval x=.slice (some (AD b off)) m c) (hm:0<m) (hy:RowC w (some (AD b off)) m size ys) (h1:∀u∈ys,u.oneCell'=true)
 (hbd:(n+m)*bytes<=140737488355328) (hbd':n+m<=9223372036854775807) (hbw:base<=w.heap.size)
 (h:∀g' cap' w',w'.ownsRow base e size (SL g' (n+m) cap') (n+m) (cs++ys)->w.grownBy w' v.ownBlock->wpList P ops Q rest (a.put o.dst (SL g' (n+m) cap')) w'):wpList P ops Q (o::rest) a w:=
 wpList_plain hgd fun _ hK=>by
  obtain ⟨i0,hi,hz0,hz1,hz2⟩:=info_parts hi;refine wp_append_own w s x t ho base e i0 z size bytes ht hi hz0 hz1 hz2 hzs hsz v n _ hs hown (AD b off) m c ys hx hy.1 (ru hy) h1 (by unfold maxLen;omega) hbd (by omega) ?_;intro v' w' h1 h2 h3;rcases h1.2 with ⟨e1,e2⟩ | ⟨g,cap,cur,e1,r⟩
  ·omega
  ·subst e1;exact hK _ _ (h g cap w' h1 h2)
structure RunS (w wr:World) (b5 b6 b7:Nat) (S:Array Value) (pa:Option Addr) (pc:Nat) (ps:List Int) (i:Nat) (q:PtrM) (h:HartM) (ev:Value) (evs:List EvM):Prop where
 n:Bw w wr
 h4:wr.heap[w.heap.size]?=some (.cells pT 29 (0,0))
 h5:wr.heap[b5]?=some (.cells S 40 (0,0))
 pk:wr.ownsRow w.heap.size 2 1 (.slice pa ps.length pc) ps.length (dB ps)
 h6:wr.heap[b6]?=some (.cells (bJ q h) 37 (0,0))
 h7:wr.heap[b7]?=some (.cells #[ev,SN,SN,VU 0,VI 0,.bool false,.bool false,VU 0,VU 0,VI 0,VI 0,VU 0] 29 (0,0))
 ev:wr.ownsRow w.heap.size 47 4 ev i (bR evs)
 hi:HartIn wr q h
 ok:HOk h
 ne:∀x,some x∈aH q->x.block≠w.heap.size∧x.block≠b6∧x.block≠b7
theorem RunS.keep {w wr v:World} {b5 b6 b7:Nat} {S:Array Value} {pa:Option Addr} {pc:Nat} {ps:List Int} {i:Nat} {q:PtrM} {h:HartM} {ev:Value} {evs:List EvM} (k:RunS w wr b5 b6 b7 S pa pc ps i q h ev evs) (hb:Bw wr v):RunS w v b5 b6 b7 S pa pc ps i q h ev evs:=
 ⟨bst k.n hb,ae k.h4 hb (hpl k.h4),ae k.h5 hb (hpl k.h5),ab k.pk hb,ae k.h6 hb (hpl k.h6),ae k.h7 hb (hpl k.h7),ab k.ev hb,k.hi.keep hb,k.ok,k.ne⟩
theorem HartIn.own {w w':World} {q:PtrM} {h:HartM} {v:Value} (k:HartIn w q h) (hg:w.grownBy w' v.ownBlock) (hne:∀g,v.ownBlock=some g->∀x,some x∈aH q->x.block≠g):HartIn w' q h:=by
 cases hv:v.ownBlock with
 | none=>
  rw [hv] at hg;exact k.keep ⟨hg.os,hg.tape,hg.output,hg.size,fun i hi=>hg.block i hi (by simp)⟩
 | some g=>
  rw [hv] at hg;exact k.gb hg (hne g hv)
theorem RunS.next {w wr v3:World} {b5 b6 b7:Nat} {S:Array Value} {pa:Option Addr} {pc:Nat} {ps:List Int} {i g' c':Nat} {q q':PtrM} {h h':HartM} {ev:Value} {evs:List EvM} {e:EvM} (k:RunS w wr b5 b6 b7 S pa pc ps i q h ev evs) (hi:HartIn wr q' h') (ok:HOk h') (hne:∀x,some x∈aH q'->x.block≠w.heap.size∧x.block≠b6∧x.block≠b7∧∀g,ev.ownBlock=some g->x.block≠g)
 (hg:wr.grownBy v3 ev.ownBlock) (ho:v3.ownsRow w.heap.size 47 4 (SL g' (i+1) c') (i+1) (bR evs++evC e)) (n67:b6≠b7) (n47:w.heap.size≠b7) (n46:w.heap.size≠b6) (l7:w.heap.size<=b7) (l6:w.heap.size<=b6):
 RunS w ((v3.setCell (AD b7 0) (SL g' (i+1) c')).setCells b6 0 (bJ q' h').toList) b5 b6 b7 S pa pc ps (i+1) q' h' (SL g' (i+1) c') (evs++[e]):=by
 have j4:=lN k.h4 hg (je k.ev k.h4 (by decide));have j5:=lN k.h5 hg (je k.ev k.h5 (by decide));have j6:=lN k.h6 hg (je k.ev k.h6 (by decide));have j7:=lN k.h7 hg (je k.ev k.h7 (by decide));have jp:=eR k.pk hg (cG k.pk k.ev (by decide));have jh:=hi.own hg (fun g hgg x hx=>(hne x hx).2.2.2 g hgg);have jn:=k.n.grown hg k.n.size (fun g hgg=>(k.ev.lt g hgg).1);have g7:=hZ (aM v3 (some b7)) 0 (SL g' (i+1) c');have i4:=aL j4 g7 n47;have i5:b5≠b7:=fun hh=>by subst hh;rw [j5] at j7;cases j7
 have i6:=aL j6 g7 n67;have i7:=iI j7 0 (SL g' (i+1) c');have g6:=iq b6 (bJ q' h').toList 0 (v3.setCell (AD b7 0) (SL g' (i+1) c')) _ (aM _ _);have i56:b5≠b6:=fun hh=>by subst hh;rw [j5] at j6;cases j6
 refine ⟨?_,aL i4 g6 n46,aL (aL j5 g7 i5) g6 i56,ak (ak jp j7 (by decide) g7) i6 (by decide) g6,fG i6 rfl,aL i7 g6 (Ne.symm n67),?_,(jh.gb g7 (fun x hx=>(hne x hx).2.2.1)).gb g6 (fun x hx=>(hne x hx).2.1),ok,fun x hx=>⟨(hne x hx).1,(hne x hx).2.1,(hne x hx).2.2.1⟩⟩
 ·exact dU l6 _ _ _ (eD jn l7 _ _)
 ·rw [cK,show bR [e]=evC e from by simp [bR]];exact ak (ak ho j7 (by decide) g7) i6 (by decide) g6
theorem uA:(Tryz.prog.info? 29).map (·.size)=some 12:=by kernel_rfl
theorem Tryz.infoEv:(Tryz.prog.info? 47).map (fun i=>(i.zero,i.size,i.bytes))=some (some (.agg #[VU 0,VI 0,VI 0,VU 0]),4,32):=by kernel_rfl
theorem uB (p:PtrM) (pa:Option Addr) (pc:Nat) (h:HartM) (ps:List Int):((eE p pa pc h ps).toList.drop 0).take 21=(bJ p h).toList:=rfl
theorem uC (p:PtrM) (pa:Option Addr) (pc:Nat) (h:HartM) (ps:List Int):(eE p pa pc h ps)[21]?=some (.slice pa ps.length pc):=rfl
theorem rM {zs:List Int} (hz:∀i:Nat,0<=zs[i]?.getD 0∧zs[i]?.getD 0<=255):∀y∈jk zs,0<=y∧y<=255:=by
 intro y hy;simp only [jk,List.mem_map] at hy;obtain ⟨k,_,rfl⟩:=hy;exact hz _
end
end Go.Proofs.YtjdmhibnhpdjaaaGreat
