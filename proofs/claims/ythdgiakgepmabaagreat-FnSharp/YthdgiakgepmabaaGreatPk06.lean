import Derived.Test.YthdgiakgepmabaaGreatPk05
namespace Go.Proofs.YthdgiakgepmabaaGreat
open Go.RowKit
set_option linter.unusedVariables false
set_option maxHeartbeats 6400000
set_option maxRecDepth 20000
structure PtrM where
 am:Option Addr
 cm:Nat
 ar:Option Addr
 cr:Nat
 a1:Option Addr
 c1:Nat
 a2:Option Addr
 c2:Nat
 a3:Option Addr
 c3:Nat
def kA (p:PtrM) (k:KM):Array Value:=#[VI k.i.sets,VI k.i.ways,.slice p.a1 k.i.es.length p.c1,VI k.d.sets,VI k.d.ways,.slice p.a2 k.d.es.length p.c2,VI k.p.sets,VI k.p.ways,.slice p.a3 k.p.es.length p.c3]
def aA (p:PtrM) (h:HartM):Array Value:=#[.slice p.am h.mem.length p.cm,.slice p.ar h.regs.length p.cr,VU h.pc,VI h.mode,.bool h.sum,.bool h.mxr,VU h.satp,VU h.tvec,VU h.epc,VI h.emode,VI h.cause,VU h.tval,
 VI h.k.i.sets,VI h.k.i.ways,.slice p.a1 h.k.i.es.length p.c1,VI h.k.d.sets,VI h.k.d.ways,.slice p.a2 h.k.d.es.length p.c2,VI h.k.p.sets,VI h.k.p.ways,.slice p.a3 h.k.p.es.length p.c3]
def Bb (p:PtrM) (al:Option Addr) (cl:Nat) (plain:Bool) (pick:Int) (r:RunM):Array Value:=#[.slice p.am r.h.mem.length p.cm,.slice p.ar r.h.regs.length p.cr,VU r.h.pc,VI r.h.mode,.bool r.h.sum,.bool r.h.mxr,VU r.h.satp,VU r.h.tvec,VU r.h.epc,VI r.h.emode,VI r.h.cause,VU r.h.tval,
 VI r.h.k.i.sets,VI r.h.k.i.ways,.slice p.a1 r.h.k.i.es.length p.c1,VI r.h.k.d.sets,VI r.h.k.d.ways,.slice p.a2 r.h.k.d.es.length p.c2,VI r.h.k.p.sets,VI r.h.k.p.ways,.slice p.a3 r.h.k.p.es.length p.c3,
 .bool plain,VI pick,VI r.cause,VU r.tval,.slice al r.looks.length cl,.bool r.fenced,.bool r.fence.hasVa,VU r.fence.va,.bool r.fence.hasAsid,VU r.fence.asid]
def wV:List (Int × Int)->List Value
 | []=>[]
 | l::ls=>.int .i64 l.1::.int .u64 l.2::wV ls
def cF (zs:List Int):List Value:=zs.map (Value.int .u64)
def dW (p:PtrM):List (Option Addr):=[p.am,p.ar,p.a1,p.a2,p.a3]
def From (B:Nat) (p p':PtrM):Prop:=∀q,some q∈dW p'->some q∈dW p∨B<=q.block
def FromL (B:Nat) (al al':Option Addr):Prop:=∀q,al'=some q->al=some q∨B<=q.block
structure HartIn (w:World) (p:PtrM) (h:HartM):Prop where
 mem:Byt w p.am h.mem.length h.mem
 memc:h.mem.length<=p.cm∧p.cm<=9223372036854775807
 regs:RowC w p.ar h.regs.length 1 (cF h.regs)
 regc:h.regs.length<=p.cr∧p.cr<=9223372036854775807
 rega:(p.ar=none->h.regs.length=0∧p.cr=0)∧∀q,p.ar=some q->q.spot=none
 ks:KAt w (.agg (kA p h.k)) h.k
 low:∀q,some q∈dW p->q.block<w.heap.size
structure RunIn (w:World) (p:PtrM) (al:Option Addr) (cl:Nat) (r:RunM):Prop where
 h:HartIn w p r.h
 looks:RowC w al r.looks.length 2 (wV r.looks)
 lookc:r.looks.length<=cl∧cl<=9223372036854775807
 looka:(al=none->r.looks.length=0∧cl=0)∧∀q,al=some q->q.spot=none
 lookl:r.looks.length<=8
 low:∀q,al=some q->q.block<w.heap.size
theorem HartIn.keep {w w':World} {p:PtrM} {h:HartM} (k:HartIn w p h) (hb:Bw w w'):HartIn w' p h:=
 ⟨k.mem.keep hb,k.memc,k.regs.keep hb,k.regc,k.rega,k.ks.keep hb,fun q hq=>ltl (k.low q hq) hb.size⟩
theorem RunIn.keep {w w':World} {p:PtrM} {al:Option Addr} {cl:Nat} {r:RunM} (k:RunIn w p al cl r) (hb:Bw w w'):RunIn w' p al cl r:=
 ⟨k.h.keep hb,k.looks.keep hb,k.lookc,k.looka,k.lookl,fun q hq=>ltl (k.low q hq) hb.size⟩
theorem Byt.gb' {w w':World} {a:Option Addr} {len r:Nat} {zs:List Int} (h:Byt w a len zs) (hg:w.grownBy w' (some r)) (hne:∀q,a=some q->q.block≠r):Byt w' a len zs:=by
 obtain ⟨h1,h2,h3⟩:=h;refine ⟨h1,h2,?_⟩;rcases h3 with h3 | ⟨b,off,rfl,hb,hc⟩
 ·exact .inl h3
 ·have hne':=hne (AD b off) rfl;exact .inr ⟨b,off,rfl,ltl hb hg.size,fun i hi=>(World.cell?_of_block (hg.block b hb (by simpa using hne'))).trans (hc i hi)⟩
theorem TlbAt.gb' {w w':World} {t:TlbM} {a:Option Addr} {n c r:Nat} {x y:Value} (h:TlbAt w (.agg #[x,y,.slice a n c]) t) (hg:w.grownBy w' (some r)) (hne:∀q,a=some q->q.block≠r):TlbAt w' (.agg #[x,y,.slice a n c]) t:=by
 obtain ⟨a',c',he,hr,rest⟩:=h;simp only [Value.agg.injEq,Array.mk.injEq,List.cons.injEq,Value.slice.injEq,and_true] at he;obtain ⟨rfl,rfl,rfl,rfl,rfl⟩:=he;exact ⟨_,_,rfl,RowC.gb' hr hg hne,rest⟩
theorem HartIn.gb {w w':World} {p:PtrM} {h:HartM} {r:Nat} (k:HartIn w p h) (hg:w.grownBy w' (some r)) (hne:∀q,some q∈dW p->q.block≠r):HartIn w' p h:=by
 refine ⟨k.mem.gb' hg fun q hq=>hne q (by simp [dW,hq]),k.memc,RowC.gb' k.regs hg fun q hq=>hne q (by simp [dW,hq]),k.regc,k.rega,?_,fun q hq=>ltl (k.low q hq) hg.size⟩;obtain ⟨a1,c1,a2,c2,a3,c3,he,t1,t2,t3⟩:=k.ks;simp only [kA,Value.agg.injEq,Array.mk.injEq,List.cons.injEq,Value.slice.injEq,true_and,and_true] at he;obtain ⟨⟨rfl,rfl⟩,⟨rfl,rfl⟩,rfl,rfl⟩:=he;exact ⟨_,_,_,_,_,_,rfl,t1.gb' hg fun q hq=>hne q (by simp [dW,hq]),t2.gb' hg fun q hq=>hne q (by simp [dW,hq]),t3.gb' hg fun q hq=>hne q (by simp [dW,hq])⟩
theorem RunIn.gb {w w':World} {p:PtrM} {al:Option Addr} {cl r:Nat} {rm:RunM} (k:RunIn w p al cl rm) (hg:w.grownBy w' (some r)) (hne:∀q,some q∈dW p->q.block≠r) (hnl:∀q,al=some q->q.block≠r):RunIn w' p al cl rm:=
 ⟨k.h.gb hg hne,RowC.gb' k.looks hg hnl,k.lookc,k.looka,k.lookl,fun q hq=>ltl (k.low q hq) hg.size⟩
abbrev mB:Array Value:=#[SN,SN,VU 0,VI 0,.bool false,.bool false,VU 0,VU 0,VU 0,VI 0,VI 0,VU 0,VI 0,VI 0,SN,VI 0,VI 0,SN,VI 0,VI 0,SN]
abbrev zS:Array Value:=#[SN,SN,VU 0,VI 0,.bool false,.bool false,VU 0,VU 0,VU 0,VI 0,VI 0,VU 0,VI 0,VI 0,SN,VI 0,VI 0,SN,VI 0,VI 0,SN,.bool false,VI 0,VI 0,VU 0,SN,.bool false,.bool false,VU 0,.bool false,VU 0]
theorem wW (p:PtrM) (h:HartM):(aA p h).all (·.oneCell')=true:=by
 simp [aA,Value.oneCell']
theorem gI (p:PtrM) (h:HartM):(aA p h).size=21:=rfl
theorem mC:mB.size=21:=rfl
theorem ph:(Tryz.prog.info? 44).map (·.size)=some 21:=by kernel_rfl
theorem vJ (zs:List Int) (i:Nat) (x:Int):(cF zs).set i (VU x)=cF (zs.set i x):=by simp [cF,List.map_set]
theorem xE (zs:List Int) (i:Nat) (h:i<zs.length):(cF zs)[i]?=some (VU (zs[i]?.getD 0)):=by
 simp [cF,h]
def eR (zs:List Int):List Value:=zs.map (Value.int .u8)
theorem xe {e:TypeId} {w:World} {g base:Nat} {zs:List Int} (h:Blk e w g zs) (hb:base<=g) (hl:zs.length<=1048576):w.ownsRow base e 1 (SL g zs.length zs.length) zs.length (eR zs):=
 ⟨by simp [eR],.inr ⟨g,zs.length,(zs.map (Value.int .u8)).toArray,rfl,hb,h,nle,by unfold maxLen;omega,by simp,by simp [eR,List.take_of_length_le]⟩⟩
def pK (p:PtrM) (a1:Option Addr) (c1:Nat) (a2:Option Addr) (c2:Nat) (a3:Option Addr) (c3:Nat):PtrM:=⟨p.am,p.cm,p.ar,p.cr,a1,c1,a2,c2,a3,c3⟩
theorem KOwn.gb {base r:Nat} {w w':World} {v:Value} {k:KM} (h:KOwn base w v k) (hg:w.grownBy w' (some r)) (hr:r<base):KOwn base w' v k:=by
 obtain ⟨g1,c1,g2,c2,g3,c3,rfl,o1,o2,o3⟩:=h;exact ⟨g1,c1,g2,c2,g3,c3,rfl,ao o1 hg hr,ao o2 hg hr,ao o3 hg hr⟩
def KRows (base:Nat) (w:World) (q:PtrM) (k:KM):Prop:=
 w.ownsRow base 154 6 (.slice q.a1 k.i.es.length q.c1) k.i.es.length (bE k.i.es)∧w.ownsRow base 154 6 (.slice q.a2 k.d.es.length q.c2) k.d.es.length (bE k.d.es)∧w.ownsRow base 154 6 (.slice q.a3 k.p.es.length q.c3) k.p.es.length (bE k.p.es)
theorem KRows.gb {base r:Nat} {w w':World} {q:PtrM} {k:KM} (h:KRows base w q k) (hg:w.grownBy w' (some r)) (hr:r<base):KRows base w' q k:=
 ⟨ao h.1 hg hr,ao h.2.1 hg hr,ao h.2.2 hg hr⟩
theorem KRows.set {base pb:Nat} {w w':World} {q:PtrM} {k:KM} {cur:Array Value} {T:TypeId} {f:Nat × Nat} (h:KRows base w q k) (hp:w.heap[pb]?=some (.cells cur T f)) (hT:T≠154) (hg:w.grownBy w' (some pb)):KRows base w' q k:=
 ⟨bS h.1 hp hT hg,bS h.2.1 hp hT hg,bS h.2.2 hp hT hg⟩
theorem KRows.keep {base:Nat} {w w':World} {q:PtrM} {k:KM} (h:KRows base w q k) (hb:Bw w w'):KRows base w' q k:=
 ⟨ai h.1 hb,ai h.2.1 hb,ai h.2.2 hb⟩
theorem fN {base:Nat} {w:World} {t:TlbM} {a:Option Addr} {c:Nat} (ho:w.ownsRow base 154 6 (.slice a t.es.length c) t.es.length (bE t.es)) (hk:dX t):TlbAt w (.agg #[VI t.sets,VI t.ways,.slice a t.es.length c]) t:=by
 have hr:=cT ho;rcases ho.2 with ⟨h2,h3⟩ | ⟨g',cap',cur,h2,hb,hg,hc1,hc2,_⟩
 ·simp only [Value.slice.injEq] at h2;obtain ⟨rfl,h4,rfl⟩:=h2;exact ⟨none,0,rfl,hr,hk.1,hk.2.1,hk.2.2.1,hk.2.2.2,by omega,by omega,fun _=>⟨h4,rfl⟩,fun q hq=>(by cases hq)⟩
 ·simp only [Value.slice.injEq] at h2;obtain ⟨rfl,_,rfl⟩:=h2;exact ⟨some (AD g' 0),_,rfl,hr,hk.1,hk.2.1,hk.2.2.1,hk.2.2.2,hc1,by unfold maxLen at hc2;omega,(by intro h;cases h),(by intro q hq;cases hq;rfl)⟩
theorem KRows.at {base:Nat} {w:World} {q:PtrM} {k:KM} (h:KRows base w q k) (hk:kOk k):KAt w (.agg (kA q k)) k:=
 ⟨_,_,_,_,_,_,rfl,fN h.1 hk.1,fN h.2.1 hk.2.1,fN h.2.2 hk.2.2⟩
theorem cS {base size n c:Nat} {e:TypeId} {w:World} {a:Option Addr} {cs:List Value} (h:w.ownsRow base e size (.slice a n c) n cs) (q:Addr) (hq:a=some q):base<=q.block∧q.block<w.heap.size:=by
 subst hq;exact (bx h).2
theorem KRows.ptrs {base:Nat} {w:World} {p:PtrM} {k:KM} (h:KRows base w p k) (q:Addr) (hq:p.a1=some q∨p.a2=some q∨p.a3=some q):base<=q.block∧q.block<w.heap.size:=by
 rcases hq with hq | hq | hq
 ·exact cS h.1 q hq
 ·exact cS h.2.1 q hq
 ·exact cS h.2.2 q hq
theorem KOwn.rows {base:Nat} {w:World} {v:Value} {k:KM} (h:KOwn base w v k):∃a1 c1 a2 c2 a3 c3,∀p,v=.agg (kA (pK p a1 c1 a2 c2 a3 c3) k)∧KRows base w (pK p a1 c1 a2 c2 a3 c3) k:=by
 obtain ⟨g1,c1,g2,c2,g3,c3,rfl,o1,o2,o3⟩:=h;exact ⟨some (AD g1 0),c1,some (AD g2 0),c2,some (AD g3 0),c3,fun p=>⟨rfl,o1,o2,o3⟩⟩
theorem KAt.ok {w:World} {v:Value} {k:KM} (h:KAt w v k):kOk k:=by
 obtain ⟨a1,c1,a2,c2,a3,c3,rfl,h1,h2,h3⟩:=h;exact ⟨h1.ok,h2.ok,h3.ok⟩
theorem kI:(Tryz.prog.info? 42).map (·.size)=some 9:=by kernel_rfl
section
attribute [local go_sem ↓] Go.wp_at_zero Go.wp_at_succ
def xd (base:Nat) (w:World) (v:Value) (r:(Int × Int) × KM):Prop:=
 ∃s1 s2 s3,v=.agg #[VI r.1.1,VU r.1.2,VI r.2.i.sets,VI r.2.i.ways,s1,VI r.2.d.sets,VI r.2.d.ways,s2,VI r.2.p.sets,VI r.2.p.ways,s3]∧
  w.ownsRow base 154 6 s1 r.2.i.es.length (bE r.2.i.es)∧w.ownsRow base 154 6 s2 r.2.d.es.length (bE r.2.d.es)∧w.ownsRow base 154 6 s3 r.2.p.es.length (bE r.2.p.es)
end
theorem eE (sv:Value) (zs:List Int) (va root:Int) (w:World) (hB:SrcAt w sv zs) (hv0:0<=va) (hv1:va<=18446744073709551615) (hr0:0<=root) (hr1:root<=18446744073709551615):
 Calls Tryz.prog 164 #[sv,VU root,VU va] w fun e w'=>ua w.heap.size w' e (aU zs root va)∧Bw w w':=by
 have b0:=(Below.refl w.heap.size w).alloc nle (Obj.cells #[VI 0,VU 0,SN] 284);have r0:Hid ((w.alloc (Obj.cells #[VI 0,VU 0,SN] 284)).heap[w.heap.size]?=some (.cells #[VI 0,VU 0,SN] 284 (0,0))):=dN w _;have HB:=hid hB;clear hB;have hb0:0<=root%17592186044416∧root%17592186044416<17592186044416:=⟨Int.emod_nonneg _ (by omega),Int.emod_lt_of_pos _ (by omega)⟩;have HM:=hid (db 44 root 17592186044415 rfl (by omega) hr0 hr1);unfold aU;cases hcn:bY va
 ·rw [if_pos rfl];have HC:=hid hcn;clear hcn;go_enter Tryz.func164,Tryz.ntmps164;go_wp2_with fail;generalize w.alloc (Obj.cells #[VI 0,VU 0,SN] 284)=v1 at b0 r0 |-;refine (eG va v1 hv0 hv1).mono ?_;rintro e v2 ⟨rfl,rfl⟩;rw [HC.out];obtain ⟨⟨d0,d1,d2⟩,f0,f1,f2⟩:=au r0.out;go_wp2_with fail;refine bodyPost_ret (v:=.tuple #[.agg #[VI 2,VU 0,SN],.iface 260 (.agg #[])]) (by simp [results,Tryz.results164,go_sem,d0,d1,d2]) rfl ?_;exact ⟨⟨none,0,rfl,World.ownsRow_nil _ _ _ _⟩,iG b0 nle _ _ _⟩
 ·rw [if_neg (by simp)];have HC:=hid hcn;clear hcn;obtain ⟨X,hX⟩:∃X,aN zs va 2 (root%17592186044416)=X:=⟨_,rfl⟩;have HX:=hid hX;rw [hX];clear hX;go_enter Tryz.func164,Tryz.ntmps164;go_wp2_with fail;have l1:w.heap.size<(w.alloc (Obj.cells #[VI 0,VU 0,SN] 284)).heap.size:=by simp
  generalize w.alloc (Obj.cells #[VI 0,VU 0,SN] 284)=v1 at b0 r0 l1 |-;refine (eG va v1 hv0 hv1).mono ?_;rintro e v2 ⟨rfl,rfl⟩;rw [HC.out];go_wp2_with fail;refine (bQ 44 17592186044415 _ (by omega)).mono ?_;rintro e v3 ⟨rfl,rfl⟩;go_wp2_with fail;rw [HM.out];refine (kx sv zs va (root%17592186044416) 2 v3 (HB.out.keep b0) (by omega) hv0 hv1 hb0.1 hb0.2).mono ?_;rintro e v4 ⟨hw,n4⟩;rw [HX.out] at hw;obtain ⟨ra,rc,rfl,o4⟩:=hw;obtain ⟨x1,x2,x3,rs⟩:=X;simp only at o4 |-;have HO:=hid o4;clear o4;have r4:=hid (ag r0.out n4 l1);have b4:=bst b0 n4;obtain ⟨⟨d0,d1,d2⟩,f0,f1,f2⟩:=au r4.out;obtain ⟨fv,hfv⟩:∃fv,bg x1=fv:=⟨_,rfl⟩;have HF:=hid hfv;rw [hfv];clear hfv;go_wp2_with fail;refine bodyPost_ret (v:=.tuple #[.agg #[VI x2,VU x3,.slice ra rs.length rc],fv]) (by simp [results,Tryz.results164,go_sem,d0,d1,d2]) rfl ?_;exact ⟨⟨ra,rc,by rw [HF.out],bD (ao HO.out (gb3 _ w.heap.size _ _ _) l1) (by omega)⟩,iG b4 nle _ _ _⟩
structure PartsAt (plain:Bool) (pick kind:Int) (r0:RunM) (cut:List be) (ri:RunM) (done rest:List be):Prop where
 eq:ab plain pick kind r0 cut=((ab plain pick kind ri rest).1,done++(ab plain pick kind ri rest).2)
 ok:ROk ri
 cause:ri.cause=0
 parts:eg (done++rest)
 looks:ri.looks.length+rest.length<=8
theorem PartsAt.step {plain:Bool} {pick kind:Int} {r0 ri:RunM} {cut done rest:List be} {q:be} (h:PartsAt plain pick kind r0 cut ri done (q::rest)) (hp:0<=pick∧pick<=255) (hk:0<=kind∧kind<=2) (h0:(aM plain pick ri.h kind q.1).1.1=0):
 PartsAt plain pick kind r0 cut (bb plain pick ri kind q.1) (done++[(q.1,q.2.1,(aM plain pick ri.h kind q.1).1.2)]) rest:=by
 have hq:=h.parts q (List.mem_append_right _ (List.mem_cons_self ..));refine ⟨?_,gK h.ok plain hp hk hq.1,h.cause,?_,?_⟩
 ·rw [h.eq,ab,if_pos h0];simp
 ·intro x hx;rw [List.append_assoc,List.mem_append] at hx;rcases hx with hx | hx
  ·exact h.parts x (List.mem_append_left _ hx)
  ·rcases List.mem_cons.1 hx with rfl | hx
   ·exact ⟨hq.1,hq.2.1,(gJ h.ok.h plain hp hk hq.1).2.2⟩
   ·exact h.parts x (List.mem_append_right _ (List.mem_cons_of_mem _ hx))
 ·have:=h.looks;simp only [List.length_cons] at this;show (ri.looks++[(kind,q.1)]).length+rest.length<=8;rw [List.length_append,List.length_singleton];omega
theorem PartsAt.trap {plain:Bool} {pick kind:Int} {r0 ri:RunM} {cut done rest:List be} {q:be} (h:PartsAt plain pick kind r0 cut ri done (q::rest)) (h0:(aM plain pick ri.h kind q.1).1.1≠0):
 (ab plain pick kind r0 cut).1=cf (bb plain pick ri kind q.1) (aM plain pick ri.h kind q.1).1.1 q.1:=by
 rw [h.eq,ab,if_neg h0]
section
attribute [local go_sem ↓] Go.wp_at_zero Go.wp_at_succ
def wT (r:RunM):RunM:=bG r (dy r.h ((r.h.pc+4)%18446744073709551616))
structure ExecIn (w v:World) (hb:Nat) (p:PtrM) (al:Option Addr) (cl:Nat) (plain:Bool) (pick:Int) (r:RunM):Prop where
 run:v.heap[w.heap.size]?=some (.cells (Bb p al cl plain pick (wT r)) 54 (0,0))
 res:v.heap[w.heap.size+1]?=some (.cells zS 54 (0,0))
 hart:v.heap[hb]?=some (.cells (aA p r.h) 44 (0,0))
 hb:w.heap.size+1<hb
 runIn:RunIn v p al cl (wT r)
 below:Bw w v
 ptrs:∀q,some q∈dW p->q.block<w.heap.size
 looks:∀q,al=some q->q.block<w.heap.size
end
section
attribute [local go_sem ↓] Go.wp_at_zero Go.wp_at_succ
theorem ExecIn.keep {w v v2:World} {hb:Nat} {p:PtrM} {al:Option Addr} {cl:Nat} {plain:Bool} {pick:Int} {r:RunM} (hE:ExecIn w v hb p al cl plain pick r) (hn:Bw v v2):ExecIn w v2 hb p al cl plain pick r:=
 ⟨ag hE.run hn (hpl hE.run),ag hE.res hn (hpl hE.res),ag hE.hart hn (hpl hE.hart),hE.hb,hE.runIn.keep hn,bst hE.below hn,hE.ptrs,hE.looks⟩
structure FS (w:World) (p:PtrM) (al:Option Addr) (cl:Nat) (r:RunM) (A:Array Value) (u:World):Prop where
 run:u.heap[w.heap.size]?=some (.cells A 54 (0,0))
 res:u.heap[w.heap.size+1]?=some (.cells zS 54 (0,0))
 rin:RunIn u p al cl (wT r)
 below:Bw w u
 ptrs:∀q,some q∈dW p->q.block<w.heap.size
 looks:∀q,al=some q->q.block<w.heap.size
theorem FS.set {w u:World} {p:PtrM} {al:Option Addr} {cl:Nat} {r:RunM} {A:Array Value} (h:FS w p al cl r A u) (k:Nat) (x:Value):FS w p al cl r (A.setIfInBounds k x) (u.setCell (AD w.heap.size k) x):=
 ⟨cV h.run k x,qV h.res k x (by omega),h.rin.gb (aj (ap u (some w.heap.size)) k x) (fun q hq=>by have:=h.ptrs q hq;omega) (fun q hq=>by have:=h.looks q hq;omega),eO h.below nle k x,h.ptrs,h.looks⟩
theorem FS.step {w u u2:World} {p:PtrM} {al:Option Addr} {cl:Nat} {r:RunM} {A:Array Value} (h:FS w p al cl r A u) (n:Bw u u2):FS w p al cl r A u2:=
 ⟨ag h.run n (hpl h.run),ag h.res n (hpl h.res),h.rin.keep n,bst h.below n,h.ptrs,h.looks⟩
end
section
attribute [local go_sem ↓] Go.wp_at_zero Go.wp_at_succ
theorem From.low {B C:Nat} {p p':PtrM} (h:From C p p') (hc:B<=C):From B p p':=fun q hq=>(h q hq).imp id fun h=>Nat.le_trans hc h
theorem FromL.low {B C:Nat} {p p':Option Addr} (h:FromL C p p') (hc:B<=C):FromL B p p':=fun q hq=>(h q hq).imp id fun h=>Nat.le_trans hc h
end
theorem Tryz.sizeB:(Tryz.prog.info? 5).map (fun i=>i.size)=some 1:=by kernel_rfl
theorem tB (a:Option Addr) (len cap:Nat) (zs:List Int) (w:World) (h:Byt w a len zs) (hl:len<=1048576):
 Calls Tryz.prog 54 #[.slice a len cap] w fun e w'=>
  e=.returned (SL w.heap.size len len)∧Blk 5 w' w.heap.size zs∧Bw w w':=by
 obtain ⟨i0,hi,hz0,hz1,hz2⟩:=info_parts Tryz.infoB;have hz:=h.1;go_enter Tryz.func54,Tryz.ntmps54;go_wp2_with (at_make;refine wpList_make_full _ rfl _ _ 75 rfl w.heap.size 5 i0 (.int .u8 0) 1 Tryz.underlying75 hi hz0 hz1 _ _ _ _ len rfl rfl rfl rfl ?b2 ?b3 nle ?_)
 case b2=>rw [hz2];omega
 case b3=>unfold maxLen;omega
 intro w0 hown0 hgrow0;rw [zL] at hown0;have hb0:=Blk.of_own hown0 rfl;have hn0:Bw w w0:=(brf).grown hgrow0 nle (fun k h=>by cases h);have h0:=h.keep hn0;clear hown0 hgrow0 h;go_wp2_with (refine wpList_copy_splice rfl (.tmp 7) (.tmp 8) 75 75 rfl 5 Tryz.underlying75 Tryz.sizeB _ _ _ _ _ _ rfl rfl w.heap.size 0 ((List.replicate len (0:Int)).map (Value.int .u8)) 5 hb0 (zs.map (Value.int .u8)) (by simp [hz]) (fun hp=>⟨rfl,zM h0 (by simpa [hz] using hp)⟩) (by simp [hz]) (uj _) w.heap.size w hn0 nle ?_;intro w1 hb1 hn1);go_ret;have hb2:=hb1.out;rw [us _ _ (by simp [hz])] at hb2;exact ⟨rfl,hb2,hn1⟩
def Cur (T:TypeId) (w:World) (p:Nat) (a:Option Addr) (len cap:Nat) (code:List Int):Prop:=
 ∃(i:Nat) (h:Int),i<=len∧w.heap[p]?=some (.cells #[.slice a len cap,VI i,VI h] T (0,0))∧Byt w a len code∧(0<len->∀x,a=some x->x.block<p)∧len<=1048576
theorem Cur.lt {T:TypeId} {w:World} {p:Nat} {a:Option Addr} {len cap:Nat} {code:List Int} (h:Cur T w p a len cap code):p<w.heap.size:=by
 obtain ⟨_,_,_,hh,_⟩:=h;exact (hpl hh)
theorem Cur.step {T:TypeId} {w v:World} {p:Nat} {a:Option Addr} {len cap:Nat} {code:List Int} {i i':Nat} {h h':Int}
 (hh:w.heap[p]?=some (.cells #[.slice a len cap,VI i,VI h] T (0,0))) (hb:Byt w a len code) (hlt:0<len->∀x,a=some x->x.block<p) (hl:len<=1048576) (hi:i'<=len)
 (hv:v.heap[p]?=some (.cells #[.slice a len cap,VI i',VI h'] T (0,0))) (hg:w.grownBy v (some p)):Cur T v p a len cap code:=by
 refine ⟨i',h',hi,hv,?_,hlt,hl⟩;obtain ⟨h1,h2,h3⟩:=hb;refine ⟨h1,h2,?_⟩;by_cases h0:len=0
 ·exact .inl h0
 rcases h3 with h3 | ⟨b,off,rfl,hbw,hc⟩
 ·exact .inl h3
 ·have hbp:b<p:=hlt (by omega) (AD b off) rfl;exact .inr ⟨b,off,rfl,ltl hbw hg.size,fun j hj=>(World.cell?_of_block (hg.block b hbw (by simp;omega))).trans (hc j hj)⟩
theorem mt {w v:World} {r:Option Nat} (h:w.grownBy v r) (n:Nat):w.grownBy (v.drewN n) r:=⟨h.os,h.tape,h.output,h.size,h.block⟩
theorem tu {w v u:World} {r:Option Nat} (h:w.grownBy v r) (k:v.grownBy u r):w.grownBy u r:=
 ⟨k.os.trans h.os,k.tape.trans h.tape,k.output.trans h.output,Nat.le_trans h.size k.size,fun i hi hn=>(k.block i (ltl hi h.size) hn).trans (h.block i hi hn)⟩
def Drew (T:TypeId) (w:World) (p:Nat) (a:Option Addr) (len cap:Nat) (code:List Int) (w':World):Prop:=Cur T w' p a len cap code∧w.grownBy w' (some p)
theorem Drew.trans {T:TypeId} {w v u:World} {p:Nat} {a:Option Addr} {len cap:Nat} {code:List Int} (h:Drew T w p a len cap code v) (k:Drew T v p a len cap code u):Drew T w p a len cap code u:=⟨k.1,tu h.2 k.2⟩
theorem Cur.below {T:TypeId} {B:Nat} {w v:World} {p:Nat} {a:Option Addr} {len cap:Nat} {code:List Int} (h:Cur T w p a len cap code) (hb:Below B w v) (hp:p<B):Cur T v p a len cap code:=by
 obtain ⟨i,hh,hi,hv,⟨h1,h2,h3⟩,hlt,hl⟩:=h;refine ⟨i,hh,hi,by rw [hb.block p hp];exact hv,⟨h1,h2,?_⟩,hlt,hl⟩;by_cases h0:len=0
 ·exact .inl h0
 rcases h3 with h3 | ⟨b,off,rfl,hbw,hc⟩
 ·exact .inl h3
 ·have hbp:b<p:=hlt (by omega) (AD b off) rfl;exact .inr ⟨b,off,rfl,ltl hbw hb.size,fun j hj=>(hb.cell (p:=⟨b,off+j,none⟩) (Nat.lt_trans hbp hp)).trans (hc j hj)⟩
theorem Drew.below {T:TypeId} {w v u:World} {p:Nat} {a:Option Addr} {len cap:Nat} {code:List Int} (h:Drew T w p a len cap code v) (hb:Below w.heap.size v u) (hp:p<w.heap.size):Drew T w p a len cap code u:=by
 refine ⟨h.1.below hb hp,⟨hb.os.trans h.2.os,hb.tape.trans h.2.tape,hb.output.trans h.2.output,Nat.le_trans h.2.size hb.size,fun i hi hn=>(hb.block i hi).trans (h.2.block i hi hn)⟩⟩
theorem OwnB.gb {e:TypeId} {w w':World} {base g n cap r:Nat} {zs:List Int} (h:OwnB e w base g n cap zs) (hg:w.grownBy w' (some r)) (hne:g≠r):OwnB e w' base g n cap zs:=by
 obtain ⟨h1,h2⟩:=h;refine ⟨h1,?_⟩;rcases h2 with ⟨h2,_⟩ | ⟨g',cap',cur,h2,hb',hh,r'⟩
 ·simp at h2
 ·have hh':=h2;simp at hh';obtain ⟨rfl,rfl⟩:=hh';exact .inr ⟨_,_,cur,h2,hb',by rw [hg.block _ (hpl hh) (by simpa using hne)];exact hh,r'⟩
theorem yK (w:World) (e:TypeId) (z:Int) (hz:0<=z∧z<=255):Byt (w.alloc (.cells #[.int .u8 z] e)) (some (AD w.heap.size 0)) 1 [z]:=
 (OwnB.new e w [z] 1 rfl (by decide)).byt (fun i=>by cases i <;> simp [hz])
section
variable {P:Program} {ops:Array Oper} {Q:Exit->Act->World->Prop} {F:World->Prop} {c:Nat}
end
theorem jM (f:Nat->Int) (k:Nat):(List.range (k+1)).map f=(List.range k).map f++[f k]:=by
 rw [List.range_succ,List.map_append];rfl
end Go.Proofs.YthdgiakgepmabaaGreat
