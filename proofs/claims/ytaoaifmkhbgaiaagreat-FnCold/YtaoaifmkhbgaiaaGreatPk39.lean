import Derived.Test.YtaoaifmkhbgaiaaGreatPk02
import Derived.Test.YtaoaifmkhbgaiaaGreatPk23
import Derived.Test.YtaoaifmkhbgaiaaGreatPk24
import Derived.Test.YtaoaifmkhbgaiaaGreatPk25
import Derived.Test.YtaoaifmkhbgaiaaGreatPk38
namespace Go.Proofs.YtaoaifmkhbgaiaaGreat
open Go.RowKit
set_option linter.unusedVariables false
def jZ:List Int→Int→Int
 | [],h=>h
 | c::r,h=>jZ r (bits BinOp.and IntKind.i64 (h*131+c+7) 1073741823)
set_option maxHeartbeats 800000 in
theorem xZ (a:Option Addr) (len cap:Nat) (zs:List Int) (w:World) (h:Byt w a len zs) (hl:len≤1048576):
 Calls Tryz.prog 26 #[.slice a len cap] w fun e w'=>
  e=.returned (.pointer (some ⟨w.heap.size,0,none⟩))∧CurN w' w.heap.size (oH zs (jZ zs (54321+(len:Int)))) 0∧Below w.heap.size w w':=by
 have HB:Hid (Byt w a len zs):=h;obtain ⟨h1,h2,h3⟩:=h;have HZ:Hid (∀(k:Nat) (hk:k<len) (x:Int),jZ (zs.drop k) x=jZ (zs.drop (k+1)) (bits BinOp.and IntKind.i64 (x*131+zs[k]?.getD 0+7) 1073741823)):=fun k hk x=>by
  rw [List.drop_eq_getElem_cons (show k<zs.length by omega),jZ,List.getElem?_eq_getElem (show k<zs.length by omega)];rfl
 obtain ⟨X,hX⟩:∃X,jZ zs (54321+(len:Int))=X:=⟨_,rfl⟩;have HX:Hid _:=hX;rw [hX];go_enter Tryz.func26,Tryz.ntmps26;go_wp2_with fail
 go_loop [3,4] (fun hh i=>∃(x:Int) (k:Nat),k≤len∧(0≤x∧x≤1073741823)∧hh=.int .i64 x∧i=.int .i64 k∧jZ (zs.drop k) x=X) (fun _ i=>len-(intOf i).toNat)
 case atStart=>exact ⟨_,0,Nat.zero_le _,by omega,rfl,rfl,by rw [List.drop_zero];exact HX.out⟩
 case round=>
  obtain ⟨x,k,hk,bx,rfl,rfl,hs⟩:=hrel;have HS:Hid _:=hs;clear hs;by_cases hlt:k<len
  ·rcases h3 with h3 | ⟨b,off,rfl,hbw,hc⟩
   ·omega
   have g1:=hc k hlt;have g4:=h2 k;have HQ:=HZ.out k hlt x;obtain ⟨z,hz⟩:∃z,zs[k]?.getD 0=z:=⟨_,rfl⟩;rw [hz] at g1 g4 HQ;have HN:Hid (jZ (zs.drop (k+1)) (bits BinOp.and IntKind.i64 (x*131+z+7) 1073741823)=X):=by
    show _=_;rw [←HQ,HS.out]
   have bN:=kc (x*131+z+7) 1073741823 (by omega) (by omega);clear hc h2 HQ hz;go_wp2
   go_round
   case rel=>exact ⟨_,k+1,by omega,bN,rfl,by go_num,HN.out⟩
   case measure=>simp [intOf];omega
  ·have HA:Hid (0<len→∀x,a=some x→x.block<w.heap.size):=by
    intro hp y hy;rcases h3 with h3 | ⟨b,off,rfl,hbw,hc⟩
    ·omega
    ·cases hy;exact hbw
   have hx:x=X:=by
    rw [←HS.out,List.drop_of_length_le (by omega),jZ]
   subst hx;clear h2 h3;go_wp2;go_ret;have n1:=(Below.refl w.heap.size w).alloc (Nat.le_refl _) (Obj.cells #[Value.slice a len cap,Value.int IntKind.i64 0,Value.int IntKind.i64 x] 139);exact ⟨rfl,⟨a,len,cap,zs,x,rfl,by rw [Nat.zero_min];exact heap_alloc_new _ _,HB.out.keep n1,HA.out,hl⟩,n1⟩
end Go.Proofs.YtaoaifmkhbgaiaaGreat

namespace Go.Proofs.YtaoaifmkhbgaiaaGreat
open Go.RowKit
set_option linter.unusedVariables false
attribute [local go_sem ↓] Go.wp_at_zero Go.wp_at_succ
def RwK (w:World) (r:Nat) (q:PtrM):Prop:=Rw w r q.a1∧Rw w r q.a2∧Rw w r q.a3
theorem RwK.mono {w w':World} {r:Nat} {q:PtrM} (h:RwK w r q) (hs:w.heap.size≤w'.heap.size):RwK w' r q:=⟨h.1.mono hs,h.2.1.mono hs,h.2.2.mono hs⟩
theorem KN.rwk {w:World} {r:Nat} {q:PtrM} {k:KM} (h:KN w r q k):RwK w r q:=⟨h.n1,h.n2,h.n3⟩
def A8 (k:KM):Prop:=(1≤k.i.es.length∧k.i.es.length≤32)∧(1≤k.d.es.length∧k.d.es.length≤32)∧(1≤k.p.es.length∧k.p.es.length≤32)
theorem YS.keep {w wr v:World} {p:Nat} {f:Nat→Int} {k b:Nat} {mode:Int} {sum mxr:Bool} {satp:Int} (s:YS w p f k wr b mode sum mxr satp) (hp:p<w.heap.size) (hb:Below wr.heap.size wr v):YS w p f k v b mode sum mxr satp:=
 ⟨s.d.below (hb.mono s.d.2.size) hp,ab s.h5 hb (Array.getElem?_eq_some_iff.1 s.h5).1,s.l5,s.bd⟩
structure LS (v3 v7:World) (R:List Nat) (p:Nat) (f:Nat→Int) (k:Nat) (wr:World) (b10 b11:Nat) (m:Int) (s x:Bool) (t:Int) (q:PtrM) (km:KM):Prop where
 y:YS v3 p f k wr b10 m s x t
 d7:DrewN v7 p f k wr
 h11:wr.heap[b11]?=some (.cells (kA q km) 30 (0,0))
 l11:v7.heap.size≤b11
 l10:b10<v7.heap.size
 l37:v3.heap.size≤v7.heap.size
 kp:KN wr p q km
 kn:∀r∈R,RwK wr r q
 n11:RwK wr b11 q
 le:A8 km
theorem LS.draw {v3 v7 wr v:World} {R:List Nat} {p:Nat} {f:Nat→Int} {k k' b10 b11:Nat} {m:Int} {s x:Bool} {t:Int} {q:PtrM} {km:KM} (S:LS v3 v7 R p f k wr b10 b11 m s x t q km) (hp:p<v3.heap.size) (d:DrewN wr p f k' v):LS v3 v7 R p f k' v b10 b11 m s x t q km:=
 ⟨S.y.draw hp d,S.d7.trans d,av S.h11 d.2 (by have:=S.l11;have:=S.l37;omega),S.l11,S.l10,S.l37,S.kp.gb d.2,fun r hr=>(S.kn r hr).mono d.2.size,S.n11.mono d.2.size,S.le⟩
theorem LS.keep {v3 v7 wr v:World} {R:List Nat} {p:Nat} {f:Nat→Int} {k b10 b11:Nat} {m:Int} {s x:Bool} {t:Int} {q:PtrM} {km:KM} (S:LS v3 v7 R p f k wr b10 b11 m s x t q km) (hp:p<v3.heap.size) (hb:Below wr.heap.size wr v):LS v3 v7 R p f k v b10 b11 m s x t q km:=
 ⟨S.y.keep hp hb,S.d7.below (hb.mono S.d7.2.size) (by have:=S.l37;omega),ab S.h11 hb (Array.getElem?_eq_some_iff.1 S.h11).1,S.l11,S.l10,S.l37,S.kp.keep hb,fun r hr=>(S.kn r hr).mono hb.size,S.n11.mono hb.size,S.le⟩
theorem LS.own {v3 v7 wr v:World} {R:List Nat} {p:Nat} {f:Nat→Int} {k b10 b11 r:Nat} {m:Int} {s x:Bool} {t:Int} {q:PtrM} {km:KM} (S:LS v3 v7 R p f k wr b10 b11 m s x t q km) (hp:p<v3.heap.size) (hg:wr.grownBy v (some r)) (hr:v7.heap.size≤r) (hne:r≠b11) (hk:RwK wr r q):LS v3 v7 R p f k v b10 b11 m s x t q km:=
 have kr:KN v r q km:=KN.gb ⟨S.kp.k,hk.1,hk.2.1,hk.2.2⟩ hg
 ⟨⟨S.y.d.own hg (by have:=S.l37;omega) hp,av S.y.h5 hg (by have:=S.l10;omega),S.y.l5,S.y.bd⟩,S.d7.own hg hr (by have:=S.l37;omega),av S.h11 hg (Ne.symm hne),S.l11,S.l10,S.l37,⟨kr.k,S.kp.n1.mono hg.size,S.kp.n2.mono hg.size,S.kp.n3.mono hg.size⟩,fun r hr=>(S.kn r hr).mono hg.size,S.n11.mono hg.size,S.le⟩
theorem LS.spoil {v3 v7 wr:World} {R:List Nat} {p:Nat} {f:Nat→Int} {k b10 b11:Nat} {m:Int} {s x:Bool} {t:Int} {q:PtrM} {km:KM} (S:LS v3 v7 R p f k wr b10 b11 m s x t q km) (hp:p<v3.heap.size) (a:Option Addr) (c:Nat) (td:TlbM) (ht:TlbN wr p a c td) (hR:∀r∈R,Rw wr r a) (h11:Rw wr b11 a) (hl:td.es.length=km.d.es.length):
 ∃v,(Instr.storeAt 28 (.pointer (some ⟨b11,3,none⟩)) (.agg #[.int .i64 td.sets,.int .i64 td.ways,.slice a td.es.length c])).run Tryz.prog wr=.ok () v∧LS v3 v7 R p f k v b10 b11 m s x t ⟨q.am,q.cm,q.ar,q.cr,q.a1,q.c1,a,c,q.a3,q.c3⟩ ⟨km.i,td,km.p⟩:=by
 refine ⟨_,fe (P:=Tryz.prog) (T:=28) (o:=3) (V:=#[.int .i64 td.sets,.int .i64 td.ways,.slice a td.es.length c]) S.h11 df (by show 3+3≤9;omega) (eI _ _ _ _ _),?_⟩;have hh:=dr b11 [.int .i64 td.sets,.int .i64 td.ways,.slice a td.es.length c] 3 wr _ _ _ S.h11 (by show 3+3≤9;omega);have hg:=aU b11 [.int .i64 td.sets,.int .i64 td.ways,.slice a td.es.length c] 3 wr wr (aE _ _);have t0:=S.kp.parts;have k1:KN wr b11 ⟨q.am,q.cm,q.ar,q.cr,q.a1,q.c1,a,c,q.a3,q.c3⟩ ⟨km.i,td,km.p⟩:=KN.of t0.1 ht.t t0.2.2 S.n11.1 h11 S.n11.2.2;have k2:=k1.gb hg;exact ⟨⟨S.y.d.own hg (by have:=S.l37;have:=S.l11;omega) hp,av S.y.h5 hg (by have:=S.l10;have:=S.l11;omega),S.y.l5,S.y.bd⟩,S.d7.own hg S.l11 (by have:=S.l37;omega),hh,S.l11,S.l10,S.l37,⟨k2.k,S.kp.n1.mono hg.size,ht.n.mono hg.size,S.kp.n3.mono hg.size⟩,fun r hr=>⟨(S.kn r hr).1.mono hg.size,(hR r hr).mono hg.size,(S.kn r hr).2.2.mono hg.size⟩,k2.rwk,⟨S.le.1,by rw [hl];exact S.le.2.1,S.le.2.2⟩⟩
theorem mj {t:TlbM} {b:Bool} (h:aG t b=true):0≤t.ways∧t.ways≤1000:=by
 simp only [aG,ip,Bool.and_eq_true,decide_eq_true_eq] at h;omega
theorem LS.load {v3 v7 wr:World} {R:List Nat} {p:Nat} {f:Nat→Int} {k b10 b11:Nat} {m:Int} {s x:Bool} {t:Int} {q:PtrM} {km:KM} (S:LS v3 v7 R p f k wr b10 b11 m s x t q km):
 (Instr.loadAt 28 (.pointer (some ⟨b11,0,none⟩))).run Tryz.prog wr=.ok (.agg #[.int .i64 km.i.sets,.int .i64 km.i.ways,.slice q.a1 km.i.es.length q.c1]) wr∧
 (Instr.loadAt 28 (.pointer (some ⟨b11,3,none⟩))).run Tryz.prog wr=.ok (.agg #[.int .i64 km.d.sets,.int .i64 km.d.ways,.slice q.a2 km.d.es.length q.c2]) wr∧
 (Instr.loadAt 28 (.pointer (some ⟨b11,6,none⟩))).run Tryz.prog wr=.ok (.agg #[.int .i64 km.p.sets,.int .i64 km.p.ways,.slice q.a3 km.p.es.length q.c3]) wr:=
 ⟨co (P:=Tryz.prog) (T:=28) S.h11 Tryz.underlying28 rfl (o:=0) [.int .i64 km.i.sets,.int .i64 km.i.ways,.slice q.a1 km.i.es.length q.c1] df rfl rfl,
  co (P:=Tryz.prog) (T:=28) S.h11 Tryz.underlying28 rfl (o:=3) [.int .i64 km.d.sets,.int .i64 km.d.ways,.slice q.a2 km.d.es.length q.c2] df rfl rfl,
  co (P:=Tryz.prog) (T:=28) S.h11 Tryz.underlying28 rfl (o:=6) [.int .i64 km.p.sets,.int .i64 km.p.ways,.slice q.a3 km.p.es.length q.c3] df rfl rfl⟩
structure TS (v3 v7:World) (R:List Nat) (p:Nat) (f:Nat→Int) (k:Nat) (wr:World) (b10 b11 b14:Nat) (m:Int) (s x:Bool) (t:Int) (q:PtrM) (km:KM) (a:Option Addr) (c:Nat) (tt:TlbM):Prop where
 l:LS v3 v7 R p f k wr b10 b11 m s x t q km
 h14:wr.heap[b14]?=some (.cells #[.int .i64 tt.sets,.int .i64 tt.ways,.slice a tt.es.length c] 28 (0,0))
 l14:v7.heap.size≤b14
 ne:b14≠b11
 k14:RwK wr b14 q
 tn:TlbN wr p a c tt
 t14:Rw wr b14 a
 le:1≤tt.es.length∧tt.es.length≤32
theorem TS.put {v3 v7 wr:World} {R:List Nat} {p:Nat} {f:Nat→Int} {k b10 b11 b14:Nat} {m:Int} {s x:Bool} {t:Int} {q:PtrM} {km:KM} {a a':Option Addr} {c c':Nat} {tt t':TlbM} (S:TS v3 v7 R p f k wr b10 b11 b14 m s x t q km a c tt) (hp:p<v3.heap.size) (tn:TlbN wr p a' c' t') (t14:Rw wr b14 a') (le:1≤t'.es.length∧t'.es.length≤32):
 ∃v,(Instr.storeAt 28 (.pointer (some ⟨b14,0,none⟩)) (.agg #[.int .i64 t'.sets,.int .i64 t'.ways,.slice a' t'.es.length c'])).run Tryz.prog wr=.ok () v∧TS v3 v7 R p f k v b10 b11 b14 m s x t q km a' c' t':=by
 obtain ⟨v,hs,hh,hg, -⟩:=cC S.h14 #[.int .i64 t'.sets,.int .i64 t'.ways,.slice a' t'.es.length c'] df rfl (eI _ _ _ _ _);have tk:TlbN v b14 a' c' t':=TlbN.gb ⟨tn.t,t14⟩ hg;exact ⟨v,hs,S.l.own hp hg S.l14 S.ne S.k14,hh,S.l14,S.ne,S.k14.mono hg.size,⟨tk.t,tn.n.mono hg.size⟩,tk.n,le⟩
theorem TS.draw {v3 v7 wr v:World} {R:List Nat} {p:Nat} {f:Nat→Int} {k k' b10 b11 b14:Nat} {m:Int} {s x:Bool} {t:Int} {q:PtrM} {km:KM} {a:Option Addr} {c:Nat} {tt:TlbM} (S:TS v3 v7 R p f k wr b10 b11 b14 m s x t q km a c tt) (hp:p<v3.heap.size) (d:DrewN wr p f k' v):TS v3 v7 R p f k' v b10 b11 b14 m s x t q km a c tt:=
 ⟨S.l.draw hp d,av S.h14 d.2 (by have:=S.l14;have:=S.l.l37;omega),S.l14,S.ne,S.k14.mono d.2.size,S.tn.gb d.2,S.t14.mono d.2.size,S.le⟩
theorem zX {P:Program} {fn:Func} {R:Ending→World→Prop} {a:Act} {w:World} {s0 s1 s2 s3 s4 s5:Tmp} {T U:TypeId} {b c:Nat} {V0 V1 V2 V3 V4 V5:Value} (hr:fn.results=#[ResultVar.tmp s0,ResultVar.cell s1 T,ResultVar.cell s2 U,ResultVar.tmp s3,ResultVar.tmp s4,ResultVar.tmp s5]) (h0:a.tmps[s0]?=some V0) (h1:a.tmps[s1]?=some (.pointer (some ⟨b,0,none⟩))) (h2:a.tmps[s2]?=some (.pointer (some ⟨c,0,none⟩))) (h3:a.tmps[s3]?=some V3) (h4:a.tmps[s4]?=some V4) (h5:a.tmps[s5]?=some V5) (hl:(loadVar T ⟨b,0,none⟩).run P w=.ok V1 w) (hm:(loadVar U ⟨c,0,none⟩).run P w=.ok V2 w) (hd:a.defers=[]) (hR:R (.returned (.tuple #[V0,V1,V2,V3,V4,V5])) w):bodyPost P fn R .ret a w:=by
 refine bodyPost_ret (v:=.tuple #[V0,V1,V2,V3,V4,V5]) ?_ hd hR;simp [results,hr,h0,h1,h2,h3,h4,h5,asAddr,hl,hm,Sem.run_bind]
end Go.Proofs.YtaoaifmkhbgaiaaGreat
