import Derived.Test.YtaoaifmkhbgaiaaGreatPk03
import Derived.Test.YtaoaifmkhbgaiaaGreatPk15
import Derived.Deep.CutRange
namespace Go.Proofs.YtaoaifmkhbgaiaaGreat
open Go.RowKit
set_option linter.unusedVariables false
def Rw (w:World) (r:Nat) (a:Option Addr):Prop:=∀q,a=some q→q.block≠r∧q.block<w.heap.size
theorem Rw.mono {w w':World} {r:Nat} {a:Option Addr} (h:Rw w r a) (hs:w.heap.size≤w'.heap.size):Rw w' r a:=fun q hq=>⟨(h q hq).1,Nat.lt_of_lt_of_le (h q hq).2 hs⟩
theorem Rw.new {w:World} {r r':Nat} {a:Option Addr} (h:Rw w r a) (hr:w.heap.size≤r'):Rw w r' a:=fun q hq=>⟨by have:=(h q hq).2;omega,(h q hq).2⟩
theorem Rw.at {w:World} {r:Nat} {a:Option Addr} (h:Rw w r a):∀q,a=some q→q.block≠r:=fun q hq=>(h q hq).1
structure KN (w:World) (r:Nat) (q:PtrM) (k:KM):Prop where
 k:KAt w (.agg (kA q k)) k
 n1:Rw w r q.a1
 n2:Rw w r q.a2
 n3:Rw w r q.a3
theorem KN.keep {w w':World} {r:Nat} {q:PtrM} {k:KM} (h:KN w r q k) (hb:Below w.heap.size w w'):KN w' r q k:=⟨h.k.keep hb,h.n1.mono hb.size,h.n2.mono hb.size,h.n3.mono hb.size⟩
theorem KN.new {w:World} {r r':Nat} {q:PtrM} {k:KM} (h:KN w r q k) (hr:w.heap.size≤r'):KN w r' q k:=⟨h.k,h.n1.new hr,h.n2.new hr,h.n3.new hr⟩
theorem KN.parts {w:World} {r:Nat} {q:PtrM} {k:KM} (h:KN w r q k):TlbAt w (.agg #[.int .i64 k.i.sets,.int .i64 k.i.ways,.slice q.a1 k.i.es.length q.c1]) k.i∧TlbAt w (.agg #[.int .i64 k.d.sets,.int .i64 k.d.ways,.slice q.a2 k.d.es.length q.c2]) k.d∧TlbAt w (.agg #[.int .i64 k.p.sets,.int .i64 k.p.ways,.slice q.a3 k.p.es.length q.c3]) k.p:=by
 obtain ⟨a1,c1,a2,c2,a3,c3,he,t1,t2,t3⟩:=h.k;simp only [kA,Value.agg.injEq,Array.mk.injEq,List.cons.injEq,Value.slice.injEq,true_and,and_true] at he;obtain ⟨⟨rfl,rfl⟩,⟨rfl,rfl⟩,rfl,rfl⟩:=he;exact ⟨t1,t2,t3⟩
theorem KN.of {w:World} {r:Nat} {q:PtrM} {k:KM} (t1:TlbAt w (.agg #[.int .i64 k.i.sets,.int .i64 k.i.ways,.slice q.a1 k.i.es.length q.c1]) k.i) (t2:TlbAt w (.agg #[.int .i64 k.d.sets,.int .i64 k.d.ways,.slice q.a2 k.d.es.length q.c2]) k.d) (t3:TlbAt w (.agg #[.int .i64 k.p.sets,.int .i64 k.p.ways,.slice q.a3 k.p.es.length q.c3]) k.p) (n1:Rw w r q.a1) (n2:Rw w r q.a2) (n3:Rw w r q.a3):KN w r q k:=
 ⟨⟨_,_,_,_,_,_,rfl,t1,t2,t3⟩,n1,n2,n3⟩
theorem KN.gb {w w':World} {r:Nat} {q:PtrM} {k:KM} (h:KN w r q k) (hg:w.grownBy w' (some r)):KN w' r q k:=
 have t:=h.parts
 KN.of (t.1.gb' hg h.n1.at) (t.2.1.gb' hg h.n2.at) (t.2.2.gb' hg h.n3.at) (h.n1.mono hg.size) (h.n2.mono hg.size) (h.n3.mono hg.size)
theorem KN.ok {w:World} {r:Nat} {q:PtrM} {k:KM} (h:KN w r q k):kOk k:=⟨h.parts.1.ok,h.parts.2.1.ok,h.parts.2.2.ok⟩
theorem uf {base size n c r:Nat} {e:TypeId} {w:World} {a:Option Addr} {cs:List Value} (h:w.ownsRow base e size (.slice a n c) n cs) (hr:r<base):Rw w r a:=by
 rcases h.2 with ⟨h2,_⟩ | ⟨g',cap',cur,h2,hb,hh,_⟩
 ·simp only [Value.slice.injEq] at h2;obtain ⟨rfl,_⟩:=h2;intro q hq;cases hq
 ·simp only [Value.slice.injEq] at h2;obtain ⟨rfl,_⟩:=h2;intro q hq;cases hq;exact ⟨by show g'≠r;omega,(Array.getElem?_eq_some_iff.1 hh).1⟩
theorem KRows.kn {base r:Nat} {w:World} {q:PtrM} {k:KM} (h:KRows base w q k) (hr:r<base) (hk:kOk k):KN w r q k:=
 KN.of (cw h.1 hk.1) (cw h.2.1 hk.2.1) (cw h.2.2 hk.2.2) (uf h.1 hr) (uf h.2.1 hr) (uf h.2.2 hr)
structure HartN (w:World) (r:Nat) (q:PtrM) (h:HartM):Prop where
 i:HartIn w q h
 n:∀x,some x∈aQ q→x.block≠r
 o:HOk h
theorem HartN.keep {w w':World} {r:Nat} {q:PtrM} {h:HartM} (k:HartN w r q h) (hb:Below w.heap.size w w'):HartN w' r q h:=⟨k.i.keep hb,k.n,k.o⟩
theorem HartN.gb {w w':World} {r:Nat} {q:PtrM} {h:HartM} (k:HartN w r q h) (hg:w.grownBy w' (some r)):HartN w' r q h:=⟨k.i.gb hg k.n,k.n,k.o⟩
theorem HartN.rw {w:World} {r:Nat} {q:PtrM} {h:HartM} (k:HartN w r q h) {a:Option Addr} (ha:a∈aQ q):Rw w r a:=fun x hx=>⟨k.n x (hx ▸ ha),k.i.low x (hx ▸ ha)⟩
theorem HartN.kn {w:World} {r:Nat} {q:PtrM} {h:HartM} (k:HartN w r q h):KN w r q h.k:=
 ⟨k.i.ks,k.rw (by simp [aQ]),k.rw (by simp [aQ]),k.rw (by simp [aQ])⟩
structure TlbN (w:World) (r:Nat) (a:Option Addr) (c:Nat) (t:TlbM):Prop where
 t:TlbAt w (.agg #[.int .i64 t.sets,.int .i64 t.ways,.slice a t.es.length c]) t
 n:Rw w r a
theorem TlbN.keep {w w':World} {r:Nat} {a:Option Addr} {c:Nat} {t:TlbM} (k:TlbN w r a c t) (hb:Below w.heap.size w w'):TlbN w' r a c t:=⟨k.t.keep hb,k.n.mono hb.size⟩
theorem TlbN.gb {w w':World} {r:Nat} {a:Option Addr} {c:Nat} {t:TlbM} (k:TlbN w r a c t) (hg:w.grownBy w' (some r)):TlbN w' r a c t:=⟨k.t.gb' hg k.n.at,k.n.mono hg.size⟩
theorem TlbN.new {w:World} {r r':Nat} {a:Option Addr} {c:Nat} {t:TlbM} (k:TlbN w r a c t) (hr:w.heap.size≤r'):TlbN w r' a c t:=⟨k.t,k.n.new hr⟩
structure BytN (w:World) (r:Nat) (a:Option Addr) (len cap:Nat) (zs:List Int):Prop where
 b:Byt w a len zs
 n:Rw w r a
 l:len≤1048576
 c:len≤cap∧cap≤9223372036854775807
theorem BytN.keep {w w':World} {r:Nat} {a:Option Addr} {len cap:Nat} {zs:List Int} (k:BytN w r a len cap zs) (hb:Below w.heap.size w w'):BytN w' r a len cap zs:=⟨k.b.keep hb,k.n.mono hb.size,k.l,k.c⟩
theorem BytN.gb {w w':World} {r:Nat} {a:Option Addr} {len cap:Nat} {zs:List Int} (k:BytN w r a len cap zs) (hg:w.grownBy w' (some r)):BytN w' r a len cap zs:=⟨k.b.gb' hg k.n.at,k.n.mono hg.size,k.l,k.c⟩
theorem BytN.new {w:World} {r r':Nat} {a:Option Addr} {len cap:Nat} {zs:List Int} (k:BytN w r a len cap zs) (hr:w.heap.size≤r'):BytN w r' a len cap zs:=⟨k.b,k.n.new hr,k.l,k.c⟩
theorem HartN.bn {w:World} {r:Nat} {q:PtrM} {h:HartM} (k:HartN w r q h):BytN w r q.am h.mem.length q.cm h.mem:=
 ⟨k.i.mem,k.rw (by simp [aQ]),by have:=fO k.o.v.size;omega,k.i.memc⟩
theorem rB {t:TlbM} {b:Bool} (h:aG t b=true):1≤t.es.length∧t.es.length≤32:=by
 simp only [aG,ip,Bool.and_eq_true,decide_eq_true_eq] at h;obtain ⟨⟨h1,h2,h3,h4⟩,_⟩:=h;rcases h1 with h1 | h1 | h1 | h1 <;> rw [h1] at h4 <;> omega
theorem pT {k:KM} (h:aV k=true):(1≤k.i.es.length∧k.i.es.length≤32)∧(1≤k.d.es.length∧k.d.es.length≤32)∧(1≤k.p.es.length∧k.p.es.length≤32):=by
 simp only [aV,Bool.and_eq_true] at h;exact ⟨rB h.1.1,rB h.1.2,rB h.2⟩
end Go.Proofs.YtaoaifmkhbgaiaaGreat

namespace Go.Proofs.YtaoaifmkhbgaiaaGreat
open Go.RowKit
set_option linter.unusedVariables false
theorem dI (v:World) (Z V:Array Value) (T:TypeId) (hi:(Tryz.prog.info? T).map (·.size)=some V.size) (hz:V.size=Z.size) (h1:V.all (·.oneCell')=true):
 ∃v',(Instr.storeAt T (.pointer (some ⟨v.heap.size,0,none⟩)) (.agg V)).run Tryz.prog (v.alloc (Obj.cells Z T))=.ok () v'∧v'.heap[v.heap.size]?=some (.cells V T (0,0))∧v'.heap.size=v.heap.size+1∧Below v.heap.size v v':=by
 have a:=di v Z T;refine ⟨_,bO (P:=Tryz.prog) (T:=T) a.1 hi hz h1,bs a.1 hz,?_,?_⟩
 ·rw [dy,a.2.1]
 ·exact bf (Nat.le_refl _) _ _ _ a.2.2
theorem cC {v:World} {g:Nat} {C:Array Value} {T:TypeId} (h:v.heap[g]?=some (.cells C T (0,0))) (V:Array Value) (hi:(Tryz.prog.info? T).map (·.size)=some V.size) (hz:V.size=C.size) (h1:V.all (·.oneCell')=true):
 ∃v',(Instr.storeAt T (.pointer (some ⟨g,0,none⟩)) (.agg V)).run Tryz.prog v=.ok () v'∧v'.heap[g]?=some (.cells V T (0,0))∧v.grownBy v' (some g)∧v'.heap.size=v.heap.size:=
 ⟨_,bO (P:=Tryz.prog) (T:=T) h hi hz h1,bs h hz,aU _ _ _ _ _ (aE _ _),dy _ _ _ _⟩
theorem jo (m:Int) (s x:Bool) (t:Int):(#[.int .i64 m,.bool s,.bool x,.int .u64 t]:Array Value).all (·.oneCell')=true:=by simp [Value.oneCell']
theorem eI (s w:Int) (a:Option Addr) (n c:Nat):(#[.int .i64 s,.int .i64 w,.slice a n c]:Array Value).all (·.oneCell')=true:=by simp [Value.oneCell']
theorem ke (v:Bool) (l t a:Int) (g:Bool) (x:Int):(#[.bool v,.int .i64 l,.int .u64 t,.int .u64 a,.bool g,.int .u64 x]:Array Value).all (·.oneCell')=true:=by simp [Value.oneCell']
theorem fh:(Tryz.prog.info? 25).map (·.size)=some 4:=by kernel_rfl
theorem DrewN.own {w v u:World} {p g:Nat} {f:Nat→Int} {k:Nat} (h:DrewN w p f k v) (hg:v.grownBy u (some g)) (hl:w.heap.size≤g) (hp:p<w.heap.size):DrewN w p f k u:=
 h.below ⟨hg.os,hg.tape,hg.output,hg.size,fun i hi=>hg.block i (Nat.lt_of_lt_of_le hi h.2.size) (by simp;omega)⟩ hp
structure CtxS (w:World) (p:Nat) (f:Nat→Int) (k:Nat) (wr:World) (b4 b5:Nat) (mode:Int) (sum mxr:Bool) (satp:Int):Prop where
 d:DrewN w p f k wr
 h4:wr.heap[b4]?=some (.cells #[.int .i64 0,.bool false,.bool false,.int .u64 0] 25 (0,0))
 h5:wr.heap[b5]?=some (.cells #[.int .i64 mode,.bool sum,.bool mxr,.int .u64 satp] 25 (0,0))
 l4:w.heap.size≤b4
 l5:w.heap.size≤b5
 ne:b4≠b5
 bd:0≤satp∧satp≤18446744073709551615
theorem CtxS.draw {w wr v:World} {p:Nat} {f:Nat→Int} {k k' b4 b5:Nat} {mode:Int} {sum mxr:Bool} {satp:Int} (s:CtxS w p f k wr b4 b5 mode sum mxr satp) (hp:p<w.heap.size) (d:DrewN wr p f k' v):CtxS w p f k' v b4 b5 mode sum mxr satp:=
 ⟨s.d.trans d,av s.h4 d.2 (by have:=s.l4;omega),av s.h5 d.2 (by have:=s.l5;omega),s.l4,s.l5,s.ne,s.bd⟩
theorem CtxS.put {w wr:World} {p:Nat} {f:Nat→Int} {k b4 b5:Nat} {mode mode':Int} {sum mxr sum' mxr':Bool} {satp satp':Int} (s:CtxS w p f k wr b4 b5 mode sum mxr satp) (hp:p<w.heap.size) (i:Nat) (x:Value) (he:(#[.int .i64 mode,.bool sum,.bool mxr,.int .u64 satp]:Array Value).setIfInBounds i x=#[.int .i64 mode',.bool sum',.bool mxr',.int .u64 satp']) (hb:0≤satp'∧satp'≤18446744073709551615):CtxS w p f k (wr.setCell ⟨b5,i,none⟩ x) b4 b5 mode' sum' mxr' satp':=
 ⟨s.d.own (ax (aE _ _) i x) s.l5 hp,dJ s.h4 i x s.ne,by rw [←he];exact da s.h5 i x,s.l4,s.l5,s.ne,hb⟩
theorem CtxS.low {w wr:World} {p:Nat} {f:Nat→Int} {k b4 b5:Nat} {mode:Int} {sum mxr:Bool} {satp:Int} (s:CtxS w p f k wr b4 b5 mode sum mxr satp):b5<wr.heap.size∧wr.cell? ⟨b5,0,none⟩=some (.int .i64 mode)∧wr.cell? ⟨b5,1,none⟩=some (.bool sum)∧wr.cell? ⟨b5,2,none⟩=some (.bool mxr)∧wr.cell? ⟨b5,3,none⟩=some (.int .u64 satp)∧∀i,wr.frozen? ⟨b5,i,none⟩=false:=
 ⟨(Array.getElem?_eq_some_iff.1 s.h5).1,ag s.h5 0 rfl,ag s.h5 1 rfl,ag s.h5 2 rfl,ag s.h5 3 rfl,fun i=>aA s.h5 i⟩
theorem CtxS.fin {w wr:World} {p:Nat} {f:Nat→Int} {k b4 b5:Nat} {mode:Int} {sum mxr:Bool} {satp:Int} (s:CtxS w p f k wr b4 b5 mode sum mxr satp) (hp:p<w.heap.size):
 (Instr.loadAt 25 (.pointer (some ⟨b5,0,none⟩))).run Tryz.prog wr=.ok (.agg #[.int .i64 mode,.bool sum,.bool mxr,.int .u64 satp]) wr∧
 ∃vE,(Instr.storeAt 25 (.pointer (some ⟨b4,0,none⟩)) (.agg #[.int .i64 mode,.bool sum,.bool mxr,.int .u64 satp])).run Tryz.prog wr=.ok () vE∧(loadVar 25 ⟨b4,0,none⟩).run Tryz.prog vE=.ok (.agg #[.int .i64 mode,.bool sum,.bool mxr,.int .u64 satp]) vE∧DrewN w p f k vE:=by
 refine ⟨aB (P:=Tryz.prog) (T:=25) s.h5 Tryz.underlying25 rfl fh,?_⟩;obtain ⟨vE,hsE,hE,gE, -⟩:=cC s.h4 #[.int .i64 mode,.bool sum,.bool mxr,.int .u64 satp] fh rfl (jo _ _ _ _);exact ⟨vE,hsE,bj (P:=Tryz.prog) hE Tryz.underlying25 rfl fh,s.d.own gE s.l4 hp⟩
set_option maxRecDepth 20000 in
set_option maxHeartbeats 3200000 in
theorem qh (p:Nat) (f:Nat→Int) (k:Nat) (q:PtrM) (h:HartM) (w:World) (hc:CurN w p f k) (hs:0≤h.satp∧h.satp≤18446744073709551615):
 Calls Tryz.prog 28 #[.pointer (some ⟨p,0,none⟩),.agg (aD q h)] w fun e w'=>∃mode sum mxr satp k',e=.returned (dx mode sum mxr satp)∧(0≤satp∧satp≤18446744073709551615)∧DrewN w p f k' w':=by
 have hp:=hc.lt;have CC:Hid (∀u,Calls Tryz.prog 81 #[.agg (aD q h)] u fun e w'=>e=.returned (dx h.mode h.sum h.mxr h.satp)∧Below u.heap.size u w'):=fun u=>p8 q h u;have hsz:=ez q h;unfold dx at CC ⊢;generalize aD q h=C at *;generalize h.mode=m0 at *;generalize h.sum=s0 at *;generalize h.mxr=x0 at *;generalize h.satp=t0 at *;go_enter Tryz.func28,Tryz.ntmps28;go_upto_region 1 with fail;have F:=eU w C #[.int .i64 0,.bool false,.bool false,.int .u64 0] 48 25;generalize (w.alloc (Obj.cells C 48)).alloc (Obj.cells #[.int .i64 0,.bool false,.bool false,.int .u64 0] 25)=v1 at F ⊢;obtain ⟨h3,h4,l1,n1⟩:=F;have J3:Hid _:=aB (P:=Tryz.prog) (T:=48) h3 Tryz.underlying48 rfl (by rw [hsz];exact fW);go_wp2_with (first | ((with_reducible refine az ?_ J3.out ?_);(exact rfl)));refine (CC.out v1).mono ?_;rintro e v2 ⟨rfl,n2⟩;obtain ⟨v3,hs3,P3,l3,n3⟩:=dI v2 #[.int .i64 0,.bool false,.bool false,.int .u64 0] #[.int .i64 m0,.bool s0,.bool x0,.int .u64 t0] 25 fh rfl (jo _ _ _ _);have HS3:Hid _:=hs3;have S:CtxS w p f k v3 (w.heap.size+1) v2.heap.size m0 s0 x0 t0:=⟨(DrewN.refl hc).below (Below.step (Below.step n1 n2 (Nat.le_refl _)) n3 (Nat.le_refl _)) hp,ab (ab h4 n2 (by omega)) n3 (by have:=n2.size;omega),P3,by omega,by have:=n2.size;omega,by have:=n2.size;omega,hs⟩;clear h3 h4 J3 P3 l3 n3 n2 hs3;go_upto_region 2 with (first | ((with_reducible refine au ?_ ?_ HS3.out ?_);(exact rfl);(exact rfl)));generalize v2.heap.size=b5 at S ⊢;generalize w.heap.size+1=b4 at S ⊢;clear HS3 CC n1 l1 hs hsz;simp only [Act.put];go_cut [16] from 9 to 15 (fun s16 wx=>∃b k',s16=.bool b∧CtxS w p f k' wx b4 b5 m0 s0 x0 t0)
 case first=>
  obtain ⟨g5,c0, -, -, -,f5⟩:=S.low;clear f5;by_cases hm:¬(m0=2)
  ·have hm':(m0 == 2)=false:=by simpa using hm
   go_wp2_with fail;go_meet
   case rel=>exact ⟨_,_,rfl,S⟩
  ·obtain rfl:m0=2:=by omega
   go_wp2_with fail;refine (aX p f k 8 _ S.d.1 (by omega) (by omega)).mono ?_;rintro e v1 ⟨y,k1, -,hy,rfl,dd⟩;replace S:=S.draw hp dd;clear dd;go_wp2_with fail;go_meet
   case rel=>exact ⟨_,_,rfl,S⟩
 case rest=>
 obtain ⟨b,k0,rfl,S'⟩:=hcut;clear S;have S:=S';clear S';go_upto_if 16 with fail;go_cut [] from 17 to 19 (fun wx=>∃m k',CtxS w p f k' wx b4 b5 m s0 x0 t0)
 case first=>
  cases b
  ·go_wp2_with fail;go_meet
   case rel=>exact ⟨_,_,S⟩
  ·go_wp2_with fail;refine (aX p f k0 2 _ S.d.1 (by omega) (by omega)).mono ?_;rintro e v2 ⟨z,k2, -,hz,rfl,dd⟩;replace S:=S.draw hp dd;clear dd;obtain ⟨g5,c0, -, -, -,f5⟩:=S.low;have f0:=f5 0;clear f5;have S2:=S.put hp 0 (.int .i64 z) rfl S.bd;go_wp2_with fail;go_meet
   case rel=>exact ⟨_,_,S2⟩
 case rest=>
 obtain ⟨m1,k1,S'⟩:=hcut;clear S;have S:=S';clear S';go_wp2_with fail;refine (aX p f k1 14 _ S.d.1 (by omega) (by omega)).mono ?_;rintro e v3 ⟨x,k3, -,hx,rfl,dd⟩;replace S:=S.draw hp dd;clear dd;rcases (show x=0∨x=1∨x=2∨x=3∨4≤x by omega) with rfl | rfl | rfl | rfl | hx4
 ·go_wp2_with fail;refine (aX p f k3 5 _ S.d.1 (by omega) (by omega)).mono ?_;rintro e v4 ⟨z,k4, -,hz,rfl,dd⟩;replace S:=S.draw hp dd;clear dd;obtain ⟨g5,c0,c1,c2,c3,f5⟩:=S.low;have f0:=f5 0;have f1:=f5 1;have f2:=f5 2;have f3:=f5 3;clear f5;have S2:=S.put hp 0 (.int .i64 (z-1)) rfl S.bd;go_upto_region 14 with fail;clear g5 c0 c1 c2 c3 f0 f1 f2 f3;obtain ⟨j5,vE,hsE,hE,dE⟩:=S2.fin hp;have J5:Hid _:=j5;have HSE:Hid _:=hsE;have bE:=S2.bd;clear j5 hsE;go_wp2_with (first | ((with_reducible refine az ?_ J5.out ?_);(exact rfl)) | ((with_reducible refine au ?_ ?_ HSE.out ?_);(exact rfl);(exact rfl)));refine ec (b:=b4) Tryz.results28 rfl hE rfl ?_;exact ⟨_,_,_,_,_,rfl,bE,dE⟩
 ·obtain ⟨g5,c0,c1,c2,c3,f5⟩:=S.low;have f0:=f5 0;have f1:=f5 1;have f2:=f5 2;have f3:=f5 3;clear f5;have S2:=S.put hp 1 (.bool (!s0)) rfl S.bd;have S3:=S2.put hp 2 (.bool (!x0)) rfl S.bd;go_upto_region 14 with fail;clear g5 c0 c1 c2 c3 f0 f1 f2 f3;obtain ⟨j5,vE,hsE,hE,dE⟩:=S3.fin hp;have J5:Hid _:=j5;have HSE:Hid _:=hsE;have bE:=S3.bd;clear j5 hsE;go_wp2_with (first | ((with_reducible refine az ?_ J5.out ?_);(exact rfl)) | ((with_reducible refine au ?_ ?_ HSE.out ?_);(exact rfl);(exact rfl)));refine ec (b:=b4) Tryz.results28 rfl hE rfl ?_;exact ⟨_,_,_,_,_,rfl,bE,dE⟩
 ·go_wp2_with fail;refine (aX p f k3 2 _ S.d.1 (by omega) (by omega)).mono ?_;rintro e v5 ⟨z,k5, -,hz,rfl,dd⟩;replace S:=S.draw hp dd;clear dd;have bz:0≤iu (1+z) 2∧iu (1+z) 2≤18446744073709551615:=by rw [iu];omega
  have CS:Hid (∀u,Calls Tryz.prog 31 #[.int .i64 (1+z),.int .i64 2] u fun e w'=>e=.returned (.int .u64 (iu (1+z) 2))∧w'=u):=fun u=>mn (1+z) 2 u (by omega) (by omega) (by omega) (by omega);generalize iu (1+z) 2=sz at *;go_wp2_with fail;refine (CS.out _).mono ?_;rintro e _ ⟨rfl,rfl⟩;obtain ⟨g5,c0,c1,c2,c3,f5⟩:=S.low;have f0:=f5 0;have f1:=f5 1;have f2:=f5 2;have f3:=f5 3;clear f5;have S2:=S.put hp 3 (.int .u64 sz) rfl bz;go_upto_region 14 with fail;clear g5 c0 c1 c2 c3 f0 f1 f2 f3;obtain ⟨j5,vE,hsE,hE,dE⟩:=S2.fin hp;have J5:Hid _:=j5;have HSE:Hid _:=hsE;have bE:=S2.bd;clear j5 hsE;go_wp2_with (first | ((with_reducible refine az ?_ J5.out ?_);(exact rfl)) | ((with_reducible refine au ?_ ?_ HSE.out ?_);(exact rfl);(exact rfl)));refine ec (b:=b4) Tryz.results28 rfl hE rfl ?_;exact ⟨_,_,_,_,_,rfl,bE,dE⟩
 ·go_wp2_with fail;refine (oI p f k3 _ S.d.1).mono ?_;rintro e v6 ⟨sz,k6, -,bz,rfl,dd⟩;replace S:=S.draw hp dd;clear dd;obtain ⟨g5,c0,c1,c2,c3,f5⟩:=S.low;have f0:=f5 0;have f1:=f5 1;have f2:=f5 2;have f3:=f5 3;clear f5;have S2:=S.put hp 3 (.int .u64 sz) rfl bz;go_upto_region 14 with fail;clear g5 c0 c1 c2 c3 f0 f1 f2 f3;obtain ⟨j5,vE,hsE,hE,dE⟩:=S2.fin hp;have J5:Hid _:=j5;have HSE:Hid _:=hsE;have bE:=S2.bd;clear j5 hsE;go_wp2_with (first | ((with_reducible refine az ?_ J5.out ?_);(exact rfl)) | ((with_reducible refine au ?_ ?_ HSE.out ?_);(exact rfl);(exact rfl)));refine ec (b:=b4) Tryz.results28 rfl hE rfl ?_;exact ⟨_,_,_,_,_,rfl,bE,dE⟩
 ·have q0:(x == 0)=false:=by simp;omega
  have q1:(x == 1)=false:=by simp;omega
  have q2:(x == 2)=false:=by simp;omega
  have q3:(x == 3)=false:=by simp;omega
  go_upto_region 14 with fail;obtain ⟨j5,vE,hsE,hE,dE⟩:=S.fin hp;have J5:Hid _:=j5;have HSE:Hid _:=hsE;have bE:=S.bd;clear j5 hsE;go_wp2_with (first | ((with_reducible refine az ?_ J5.out ?_);(exact rfl)) | ((with_reducible refine au ?_ ?_ HSE.out ?_);(exact rfl);(exact rfl)));refine ec (b:=b4) Tryz.results28 rfl hE rfl ?_;exact ⟨_,_,_,_,_,rfl,bE,dE⟩
end Go.Proofs.YtaoaifmkhbgaiaaGreat
