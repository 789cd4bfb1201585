import Derived.Test.YthekickjjaleaaaGreatPack18
import Derived.Test.YthekickjjaleaaaGreatPack19
import Derived.Test.YthekickjjaleaaaGreatPack31
namespace Go.Proofs.YthekickjjaleaaaGreat
open Go.RowKit
set_option linter.unusedVariables false
attribute [local go_sem ↓] Go.wp_at_zero Go.wp_at_succ
def RwK (w:World) (r:Nat) (q:PtrM):Prop:=Rw w r q.a1∧Rw w r q.a2∧Rw w r q.a3
theorem RwK.mono {w w':World} {r:Nat} {q:PtrM} (h:RwK w r q) (hs:w.heap.size≤w'.heap.size):RwK w' r q:=⟨h.1.mono hs,h.2.1.mono hs,h.2.2.mono hs⟩
theorem KN.rwk {w:World} {r:Nat} {q:PtrM} {k:KM} (h:KN w r q k):RwK w r q:=⟨h.n1,h.n2,h.n3⟩
def xe (k:KM):Prop:=(1≤k.i.es.length∧k.i.es.length≤32)∧(1≤k.d.es.length∧k.d.es.length≤32)∧(1≤k.p.es.length∧k.p.es.length≤32)
theorem YS.keep {w wr v:World} {p:Nat} {f:Nat→Int} {k b:Nat} {mode:Int} {sum mxr:Bool} {satp:Int} (s:YS w p f k wr b mode sum mxr satp) (hp:p<w.heap.size) (hb:Below wr.heap.size wr v):YS w p f k v b mode sum mxr satp:=
 ⟨s.d.below (hb.mono s.d.2.size) hp,ab s.h5 hb (Array.getElem?_eq_some_iff.1 s.h5).1,s.l5,s.bd⟩
structure LS (v3 v7:World) (R:List Nat) (p:Nat) (f:Nat→Int) (k:Nat) (wr:World) (b10 b11:Nat) (m:Int) (s x:Bool) (t:Int) (q:PtrM) (km:KM):Prop where
 y:YS v3 p f k wr b10 m s x t
 d7:DrewN v7 p f k wr
 h11:wr.heap[b11]?=some (.cells (kA q km) 43 (0,0))
 l11:v7.heap.size≤b11
 l10:b10<v7.heap.size
 l37:v3.heap.size≤v7.heap.size
 kp:KN wr p q km
 kn:∀r∈R,RwK wr r q
 n11:RwK wr b11 q
 le:xe km
theorem LS.draw {v3 v7 wr v:World} {R:List Nat} {p:Nat} {f:Nat→Int} {k k' b10 b11:Nat} {m:Int} {s x:Bool} {t:Int} {q:PtrM} {km:KM} (S:LS v3 v7 R p f k wr b10 b11 m s x t q km) (hp:p<v3.heap.size) (d:DrewN wr p f k' v):LS v3 v7 R p f k' v b10 b11 m s x t q km:=
 ⟨S.y.draw hp d,S.d7.trans d,aw S.h11 d.2 (by have:=S.l11;have:=S.l37;omega),S.l11,S.l10,S.l37,S.kp.gb d.2,fun r hr=>(S.kn r hr).mono d.2.size,S.n11.mono d.2.size,S.le⟩
theorem LS.keep {v3 v7 wr v:World} {R:List Nat} {p:Nat} {f:Nat→Int} {k b10 b11:Nat} {m:Int} {s x:Bool} {t:Int} {q:PtrM} {km:KM} (S:LS v3 v7 R p f k wr b10 b11 m s x t q km) (hp:p<v3.heap.size) (hb:Below wr.heap.size wr v):LS v3 v7 R p f k v b10 b11 m s x t q km:=
 ⟨S.y.keep hp hb,S.d7.below (hb.mono S.d7.2.size) (by have:=S.l37;omega),ab S.h11 hb (Array.getElem?_eq_some_iff.1 S.h11).1,S.l11,S.l10,S.l37,S.kp.keep hb,fun r hr=>(S.kn r hr).mono hb.size,S.n11.mono hb.size,S.le⟩
theorem LS.own {v3 v7 wr v:World} {R:List Nat} {p:Nat} {f:Nat→Int} {k b10 b11 r:Nat} {m:Int} {s x:Bool} {t:Int} {q:PtrM} {km:KM} (S:LS v3 v7 R p f k wr b10 b11 m s x t q km) (hp:p<v3.heap.size) (hg:wr.grownBy v (some r)) (hr:v7.heap.size≤r) (hne:r≠b11) (hk:RwK wr r q):LS v3 v7 R p f k v b10 b11 m s x t q km:=
 have kr:KN v r q km:=KN.gb ⟨S.kp.k,hk.1,hk.2.1,hk.2.2⟩ hg
 ⟨⟨S.y.d.own hg (by have:=S.l37;omega) hp,aw S.y.h5 hg (by have:=S.l10;omega),S.y.l5,S.y.bd⟩,S.d7.own hg hr (by have:=S.l37;omega),aw S.h11 hg (Ne.symm hne),S.l11,S.l10,S.l37,⟨kr.k,S.kp.n1.mono hg.size,S.kp.n2.mono hg.size,S.kp.n3.mono hg.size⟩,fun r hr=>(S.kn r hr).mono hg.size,S.n11.mono hg.size,S.le⟩
theorem lN {t:TlbM} {b:Bool} (h:aI t b=true):0≤t.ways∧t.ways≤1000:=by
 simp only [aI,fF,Bool.and_eq_true,decide_eq_true_eq] at h;omega
theorem LS.load {v3 v7 wr:World} {R:List Nat} {p:Nat} {f:Nat→Int} {k b10 b11:Nat} {m:Int} {s x:Bool} {t:Int} {q:PtrM} {km:KM} (S:LS v3 v7 R p f k wr b10 b11 m s x t q km):
 (Instr.loadAt 41 (.pointer (some ⟨b11,0,none⟩))).run Tryz.prog wr=.ok (.agg #[.int .i64 km.i.sets,.int .i64 km.i.ways,.slice q.a1 km.i.es.length q.c1]) wr∧
 (Instr.loadAt 41 (.pointer (some ⟨b11,3,none⟩))).run Tryz.prog wr=.ok (.agg #[.int .i64 km.d.sets,.int .i64 km.d.ways,.slice q.a2 km.d.es.length q.c2]) wr∧
 (Instr.loadAt 41 (.pointer (some ⟨b11,6,none⟩))).run Tryz.prog wr=.ok (.agg #[.int .i64 km.p.sets,.int .i64 km.p.ways,.slice q.a3 km.p.es.length q.c3]) wr:=
 ⟨cw (P:=Tryz.prog) (T:=41) S.h11 Tryz.underlying41 rfl (o:=0) [.int .i64 km.i.sets,.int .i64 km.i.ways,.slice q.a1 km.i.es.length q.c1] dl rfl rfl,
  cw (P:=Tryz.prog) (T:=41) S.h11 Tryz.underlying41 rfl (o:=3) [.int .i64 km.d.sets,.int .i64 km.d.ways,.slice q.a2 km.d.es.length q.c2] dl rfl rfl,
  cw (P:=Tryz.prog) (T:=41) S.h11 Tryz.underlying41 rfl (o:=6) [.int .i64 km.p.sets,.int .i64 km.p.ways,.slice q.a3 km.p.es.length q.c3] dl rfl rfl⟩
structure TS (v3 v7:World) (R:List Nat) (p:Nat) (f:Nat→Int) (k:Nat) (wr:World) (b10 b11 b14:Nat) (m:Int) (s x:Bool) (t:Int) (q:PtrM) (km:KM) (a:Option Addr) (c:Nat) (tt:TlbM):Prop where
 l:LS v3 v7 R p f k wr b10 b11 m s x t q km
 h14:wr.heap[b14]?=some (.cells #[.int .i64 tt.sets,.int .i64 tt.ways,.slice a tt.es.length c] 41 (0,0))
 l14:v7.heap.size≤b14
 ne:b14≠b11
 k14:RwK wr b14 q
 tn:TlbN wr p a c tt
 t14:Rw wr b14 a
 le:1≤tt.es.length∧tt.es.length≤32
theorem TS.put {v3 v7 wr:World} {R:List Nat} {p:Nat} {f:Nat→Int} {k b10 b11 b14:Nat} {m:Int} {s x:Bool} {t:Int} {q:PtrM} {km:KM} {a a':Option Addr} {c c':Nat} {tt t':TlbM} (S:TS v3 v7 R p f k wr b10 b11 b14 m s x t q km a c tt) (hp:p<v3.heap.size) (tn:TlbN wr p a' c' t') (t14:Rw wr b14 a') (le:1≤t'.es.length∧t'.es.length≤32):
 ∃v,(Instr.storeAt 41 (.pointer (some ⟨b14,0,none⟩)) (.agg #[.int .i64 t'.sets,.int .i64 t'.ways,.slice a' t'.es.length c'])).run Tryz.prog wr=.ok () v∧TS v3 v7 R p f k v b10 b11 b14 m s x t q km a' c' t':=by
 obtain ⟨v,hs,hh,hg, -⟩:=dx S.h14 #[.int .i64 t'.sets,.int .i64 t'.ways,.slice a' t'.es.length c'] dl rfl (eP _ _ _ _ _);have tk:TlbN v b14 a' c' t':=TlbN.gb ⟨tn.t,t14⟩ hg;exact ⟨v,hs,S.l.own hp hg S.l14 S.ne S.k14,hh,S.l14,S.ne,S.k14.mono hg.size,⟨tk.t,tn.n.mono hg.size⟩,tk.n,le⟩
theorem TS.draw {v3 v7 wr v:World} {R:List Nat} {p:Nat} {f:Nat→Int} {k k' b10 b11 b14:Nat} {m:Int} {s x:Bool} {t:Int} {q:PtrM} {km:KM} {a:Option Addr} {c:Nat} {tt:TlbM} (S:TS v3 v7 R p f k wr b10 b11 b14 m s x t q km a c tt) (hp:p<v3.heap.size) (d:DrewN wr p f k' v):TS v3 v7 R p f k' v b10 b11 b14 m s x t q km a c tt:=
 ⟨S.l.draw hp d,aw S.h14 d.2 (by have:=S.l14;have:=S.l.l37;omega),S.l14,S.ne,S.k14.mono d.2.size,S.tn.gb d.2,S.t14.mono d.2.size,S.le⟩
end Go.Proofs.YthekickjjaleaaaGreat

namespace Go.Proofs.YthekickjjaleaaaGreat
open Go.RowKit
set_option linter.unusedVariables false
attribute [local go_sem ↓] Go.wp_at_zero Go.wp_at_succ
structure SS (w:World) (p:Nat) (f:Nat→Int) (k:Nat) (wr:World) (b2 b4:Nat) (q:PtrM) (h:HartM):Prop where
 d:DrewN w p f k wr
 h2:wr.heap[b2]?=some (.cells #[.int .i64 0,.int .i64 0,.slice none 0 0] 41 (0,0))
 h4:wr.heap[b4]?=some (.cells (aA q h) 59 (0,0))
 kp:KN wr p q h.k
 k2:RwK wr b2 q
 good:bs h.k=true
 ge:∀x,(q.a1=some x∨q.a2=some x∨q.a3=some x)→w.heap.size≤x.block
theorem SS.draw {w wr v:World} {p:Nat} {f:Nat→Int} {k k' b2 b4:Nat} {q:PtrM} {h:HartM} (s:SS w p f k wr b2 b4 q h) (hp:p<w.heap.size) (l2:w.heap.size≤b2) (l4:w.heap.size≤b4) (d:DrewN wr p f k' v):SS w p f k' v b2 b4 q h:=
 ⟨s.d.trans d,aw s.h2 d.2 (by omega),aw s.h4 d.2 (by omega),s.kp.gb d.2,s.k2.mono d.2.size,s.good,s.ge⟩
structure ES (w:World) (p:Nat) (f:Nat→Int) (k:Nat) (wr:World) (b2 b6:Nat) (a:Option Addr) (c:Nat) (t:TlbM):Prop where
 d:DrewN w p f k wr
 h2:wr.heap[b2]?=some (.cells #[.int .i64 0,.int .i64 0,.slice none 0 0] 41 (0,0))
 h6:wr.heap[b6]?=some (.cells #[.int .i64 t.sets,.int .i64 t.ways,.slice a t.es.length c] 41 (0,0))
 tn:TlbN wr p a c t
 n2:Rw wr b2 a
 n6:Rw wr b6 a
 le:1≤t.es.length∧t.es.length≤32
 ge:∀x,a=some x→w.heap.size≤x.block
 l2:w.heap.size≤b2
 l6:w.heap.size≤b6
 n26:b2≠b6
theorem ES.draw {w wr v:World} {p:Nat} {f:Nat→Int} {k k' b2 b6:Nat} {a:Option Addr} {c:Nat} {t:TlbM} (s:ES w p f k wr b2 b6 a c t) (hp:p<w.heap.size) (d:DrewN wr p f k' v):ES w p f k' v b2 b6 a c t:=
 ⟨s.d.trans d,aw s.h2 d.2 (by have:=s.l2;omega),aw s.h6 d.2 (by have:=s.l6;omega),s.tn.gb d.2,s.n2.mono d.2.size,s.n6.mono d.2.size,s.le,s.ge,s.l2,s.l6,s.n26⟩
theorem ES.put {w wr:World} {p:Nat} {f:Nat→Int} {k b2 b6:Nat} {a a':Option Addr} {c c':Nat} {t t':TlbM} (s:ES w p f k wr b2 b6 a c t) (hp:p<w.heap.size) (tn:TlbN wr p a' c' t') (n2:Rw wr b2 a') (n6:Rw wr b6 a') (le:1≤t'.es.length∧t'.es.length≤32) (ge:∀x,a'=some x→w.heap.size≤x.block):
 ∃v,(Instr.storeAt 41 (.pointer (some ⟨b6,0,none⟩)) (.agg #[.int .i64 t'.sets,.int .i64 t'.ways,.slice a' t'.es.length c'])).run Tryz.prog wr=.ok () v∧wr.grownBy v (some b6)∧ES w p f k v b2 b6 a' c' t':=by
 obtain ⟨v,hs,hh,hg, -⟩:=dx s.h6 #[.int .i64 t'.sets,.int .i64 t'.ways,.slice a' t'.es.length c'] dl rfl (eP _ _ _ _ _);have tk:TlbN v b6 a' c' t':=TlbN.gb ⟨tn.t,n6⟩ hg;exact ⟨v,hs,hg,s.d.own hg s.l6 hp,aw s.h2 hg s.n26,hh,⟨tk.t,tn.n.mono hg.size⟩,n2.mono hg.size,tk.n,le,ge,s.l2,s.l6,s.n26⟩
def wK5 (h:HartM) (k:KM):HartM:=⟨h.mem,h.regs,h.pc,h.mode,h.sum,h.mxr,h.satp,h.tvec,h.epc,h.emode,h.cause,h.tval,k⟩
set_option maxRecDepth 20000 in
set_option maxHeartbeats 12800000 in
theorem rk (p:Nat) (f:Nat→Int) (k:Nat) (w:World) (hc:CurN w p f k):
 Calls Tryz.prog 119 #[.pointer (some ⟨p,0,none⟩)] w fun e w'=>∃(a:Option Addr) (c:Nat) (t:TlbM) (pb:Bool) (k':Nat),e=.returned (.tuple #[.agg #[.int .i64 t.sets,.int .i64 t.ways,.slice a t.es.length c],.bool pb])∧TlbN w' p a c t∧(1≤t.es.length∧t.es.length≤32)∧(∀x,a=some x→w.heap.size≤x.block)∧DrewN w p f k' w':=by
 have hp:=hc.lt;go_enter Tryz.func119,Tryz.ntmps119;go_upto_region 1 with fail;have F:=dr w #[.int .i64 0,.int .i64 0,.slice none 0 0] 41;generalize w.alloc (Obj.cells #[.int .i64 0,.int .i64 0,.slice none 0 0] 41)=v1 at F ⊢;obtain ⟨h2,l1,n1⟩:=F;have D1:=(DrewN.refl hc).below n1 hp;have s1:w.heap.size<v1.heap.size:=by omega
 clear n1 l1;go_wp2_with fail;refine (uy p f k v1 D1.1).mono ?_;rintro e v2 ⟨q,h,k2,rfl,hn,hge,d2⟩;obtain ⟨v3,hs3,P3,l3,n3⟩:=qf v2 (aA q h) rfl (eU _ _);have HS3:Hid _:=hs3;have s2:=d2.2.size;have s3:=n3.size;have HN:Hid (HartN v3 p q h):=hn.keep n3;have S:SS w p f k2 v3 w.heap.size v2.heap.size q h:=⟨(D1.trans d2).below (n3.mono (by omega)) hp,ab (aw h2 d2.2 (by omega)) n3 (by omega),P3,hn.kn.keep n3,⟨fun z hz=>⟨by have:=hge z (by simp [aN,hz]);omega,(hn.kn.keep n3).n1 z hz |>.2⟩,fun z hz=>⟨by have:=hge z (by simp [aN,hz]);omega,(hn.kn.keep n3).n2 z hz |>.2⟩,fun z hz=>⟨by have:=hge z (by simp [aN,hz]);omega,(hn.kn.keep n3).n3 z hz |>.2⟩⟩,hn.o.v.ks,fun z hz=>by have:=hge z (by rcases hz with hz | hz | hz <;> simp [aN,hz]);omega⟩;have HKr:Hid (∀r,r<v1.heap.size→KN v3 r q h.k):=fun r hr=>⟨(hn.kn.keep n3).k,fun z hz=>⟨by have:=hge z (by simp [aN,hz]);omega,(hn.kn.keep n3).n1 z hz |>.2⟩,fun z hz=>⟨by have:=hge z (by simp [aN,hz]);omega,(hn.kn.keep n3).n2 z hz |>.2⟩,fun z hz=>⟨by have:=hge z (by simp [aN,hz]);omega,(hn.kn.keep n3).n3 z hz |>.2⟩⟩;have N4:Hid (RwK v3 v2.heap.size q):=(hn.kn.new (Nat.le_refl _)).rwk.mono n3.size;clear hs3 P3 n3 hn hge d2 h2;have AS:=dX q h;generalize hAH:aA q h=AH at HS3 ⊢;go_upto_region 2 with (first | ((with_reducible refine av ?_ ?_ HS3.out ?_);(exact rfl);(exact rfl)));try simp only [Act.put]
 have EAH:Hid (aA q h=AH):=hAH;clear hAH;clear HS3;generalize hb4:v2.heap.size=b4 at S l3 s2 s3 N4 ⊢;clear hb4;generalize hb2:w.heap.size=b2 at S ⊢;have l2:w.heap.size≤b2:=Nat.le_of_eq hb2;have l2v:b2<v1.heap.size:=by omega
 clear hb2;have hp3:p<v3.heap.size:=S.d.1.lt;go_wp2_with fail;refine (bD p f k2 5 _ S.d.1 (by omega) (by omega)).mono ?_;rintro e v4 ⟨y,k4, -,hy,rfl,d4⟩;replace S:=S.draw hp l2 (by omega) d4;replace HN:Hid _:=HN.out.gb d4.2;have HKs:Hid (∀r,r<v1.heap.size→KN v4 r q h.k):=fun r hr=>⟨S.kp.k,(HKr.out r hr).n1.mono d4.2.size,(HKr.out r hr).n2.mono d4.2.size,(HKr.out r hr).n3.mono d4.2.size⟩;have s4:=d4.2.size;replace N4:Hid (RwK v4 b4 q):=N4.out.mono d4.2.size;clear d4 HKr;go_upto_if 11 with fail;first
  | generalize hbl:decide (0<y)=bl
  | generalize hbl:decide (y>0)=bl
 clear hbl;go_cut [] from 12 to 21 (fun wx=>∃(q':PtrM) (h':HartM) (k':Nat),SS w p f k' wx b2 b4 q' h')
 case first=>
  cases bl
  ·go_wp2_with fail;go_meet
   case rel=>exact ⟨_,_,_,S⟩
  ·as_aux_lemma=>
   have HH:Hid _:=S.h4;have CX:Hid (∀(k:Nat) (u:World),CurN u p f k→Calls Tryz.prog 62 #[.pointer (some ⟨p,0,none⟩),.agg (aA q h)] u fun e w'=>∃mode sum mxr satp k',e=.returned (dD mode sum mxr satp)∧(0≤satp∧satp≤18446744073709551615)∧DrewN u p f k' w'):=fun k u hu=>rj p f k q h u hu HN.out.o.satp;have CWm:Hid (∀(k:Nat) (u:World) (m1:Int) (s x:Bool) (t1:Int),(0≤t1∧t1≤18446744073709551615)→CurN u p f k→HartN u p q h→Calls Tryz.prog 66 #[.pointer (some ⟨p,0,none⟩),.slice q.am h.mem.length q.cm,dD m1 s x t1,.agg (kA q h.k)] u fun e w'=>∃q' km' k',e=.returned (.agg (kA q' km'))∧KN w' p q' km'∧bs km'=true∧(∀r,r<u.heap.size→KN u r q h.k→KN w' r q' km')∧DrewN u p f k' w'):=fun k u m1 s x t1 hb hu hh=>uS p f k q.am h.mem.length q.cm h.mem m1 s x t1 q h.k u hu hh.bn hb hh.kn hh.o.v.ks;have HL0:Hid (∀u:World,u.heap[b4]?=some (.cells (aA q h) 59 (0,0))→(Instr.loadAt 22 (.pointer (some ⟨b4,0,none⟩))).run Tryz.prog u=.ok (.slice q.am h.mem.length q.cm) u):=fun u hu=>by
    have h1:=ag hu 0 (v:=.slice q.am h.mem.length q.cm) rfl;go_simp
   have HLh:Hid (∀u:World,u.heap[b4]?=some (.cells (aA q h) 59 (0,0))→(Instr.loadAt 59 (.pointer (some ⟨b4,0,none⟩))).run Tryz.prog u=.ok (.agg (aA q h)) u):=fun u hu=>mh rfl hu;have HLk:Hid (∀u:World,u.heap[b4]?=some (.cells (aA q h) 59 (0,0))→(Instr.loadAt 43 (.pointer (some ⟨b4,12,none⟩))).run Tryz.prog u=.ok (.agg (kA q h.k)) u):=fun u hu=>cw (P:=Tryz.prog) (T:=43) hu Tryz.underlying43 rfl (o:=12) (kA q h.k).toList fI rfl rfl;have HST:Hid (∀(u:World) (q':PtrM) (km':KM),u.heap[b4]?=some (.cells (aA q h) 59 (0,0))→∃v,(Instr.storeAt 43 (.pointer (some ⟨b4,12,none⟩)) (.agg (kA q' km'))).run Tryz.prog u=.ok () v∧v.heap[b4]?=some (.cells (aA ⟨q.am,q.cm,q.ar,q.cr,q'.a1,q'.c1,q'.a2,q'.c2,q'.a3,q'.c3⟩ (wK5 h km')) 59 (0,0))∧u.grownBy v (some b4)):=fun u q' km' hu=>
    ⟨_,et (P:=Tryz.prog) (T:=43) (o:=12) (V:=kA q' km') hu fI (by show 12+9≤21;omega) (sH _ _),cM b4 (kA q' km').toList 12 u _ _ _ hu (by show 12+9≤21;omega),aM b4 _ 12 u u (az _ _)⟩
   unfold dD at CX CWm;have HD:Hid _:=S.d;have HH2:Hid _:=S.h2;have HGe:Hid (∀r,r<v1.heap.size→KN v4 r q h.k):=HKs.out;have lb4:=(Array.getElem?_eq_some_iff.1 S.h4).1;clear S HKs;have hAH:=EAH.out;rw [hAH] at HH CX HL0 HLh HLk HST;generalize hAK:kA q h.k=AK at CWm HLk;generalize hML:h.mem.length=ML at CWm HL0;clear hAH hAK hML;go_upto_region 3 with fail;have gD:v4.grownBy v4.drew (some p):=jd (Below.refl _ _).drew;have HFu:Hid (∀u:World,v4.grownBy u (some p)→u.heap[b4]?=some (.cells AH 59 (0,0))):=fun u hu=>aw HH.out hu (by omega);have hF:=HFu.out v4.drew gD;refine be (fun u=>u.heap[b4]?=some (.cells AH 59 (0,0))) 10 (by kernel_rfl) ?_;refine ah 0 12 (.pointer (some ⟨p,0,none⟩)) rfl (by kernel_rfl) (by kernel_rfl) (by kernel_rfl) (by kernel_rfl) rfl (by kernel_rfl) (fun _ _ _ h=>h) (by kernel_rfl) (fun u hu=>by kernel_rfl) hF (by kernel_rfl) ?_;simp only [Act.put,List.setIfInBounds_toArray,List.set_cons_succ,List.set_cons_zero];refine ah 1 13 (.pointer (some ⟨b4,0,none⟩)) rfl (by kernel_rfl) (by kernel_rfl) (by kernel_rfl) (by kernel_rfl) rfl (by kernel_rfl) (fun _ _ _ h=>h) (by kernel_rfl) (fun u hu=>by kernel_rfl) hF (by kernel_rfl) ?_;simp only [Act.put,List.setIfInBounds_toArray,List.set_cons_succ,List.set_cons_zero];refine ah 2 14 (.slice q.am ML q.cm) rfl (by kernel_rfl) (by kernel_rfl) (by kernel_rfl) (by kernel_rfl) rfl (by kernel_rfl) (fun _ _ _ h=>h) (by kernel_rfl) (fun u hu=>aQ rfl (HL0.out u hu)) hF (by kernel_rfl) ?_;simp only [Act.put,List.setIfInBounds_toArray,List.set_cons_succ,List.set_cons_zero];refine ah 3 15 (.pointer (some ⟨p,0,none⟩)) rfl (by kernel_rfl) (by kernel_rfl) (by kernel_rfl) (by kernel_rfl) rfl (by kernel_rfl) (fun _ _ _ h=>h) (by kernel_rfl) (fun u hu=>by kernel_rfl) hF (by kernel_rfl) ?_;simp only [Act.put,List.setIfInBounds_toArray,List.set_cons_succ,List.set_cons_zero];refine ah 4 16 (.agg AH) rfl (by kernel_rfl) (by kernel_rfl) (by kernel_rfl) (by kernel_rfl) rfl (by kernel_rfl) (fun _ _ _ h=>h) (by kernel_rfl) (fun u hu=>aQ rfl (HLh.out u hu)) hF (by kernel_rfl) ?_;simp only [Act.put,List.setIfInBounds_toArray,List.set_cons_succ,List.set_cons_zero];refine ah 6 18 (.pointer (some ⟨b4,12,none⟩)) rfl (by kernel_rfl) (by kernel_rfl) (by kernel_rfl) (by kernel_rfl) rfl (by kernel_rfl) (fun _ _ _ h=>h) (by kernel_rfl) (fun u hu=>by kernel_rfl) hF (by kernel_rfl) ?_;simp only [Act.put,List.setIfInBounds_toArray,List.set_cons_succ,List.set_cons_zero];refine ah 7 19 (.agg AK) rfl (by kernel_rfl) (by kernel_rfl) (by kernel_rfl) (by kernel_rfl) rfl (by kernel_rfl) (fun _ _ _ h=>h) (by kernel_rfl) (fun u hu=>aQ rfl (HLk.out u hu)) hF (by kernel_rfl) ?_;simp only [Act.put,List.setIfInBounds_toArray,List.set_cons_succ,List.set_cons_zero];refine bJ 5 17 (by kernel_rfl) rfl (by kernel_rfl) (by kernel_rfl) (f:=62) (args:=#[.pointer (some ⟨p,0,none⟩),.agg AH]) (by kernel_rfl) ?_;refine (CX.out k4 v4.drew (HD.out.1.below (B:=v4.heap.size) (Below.refl _ _).drew HD.out.1.lt)).mono ?_;rintro e v5 ⟨m1,sm,mx,t1,k5,rfl,bt,d5⟩;have g5:=cS gD d5.2;refine ⟨_,rfl,fun _=>HFu.out v5 g5,?_⟩;simp only [Act.put,List.setIfInBounds_toArray,List.set_cons_succ,List.set_cons_zero];refine bJ 8 20 (by kernel_rfl) rfl (by kernel_rfl) (by kernel_rfl) (f:=66) (args:=#[.pointer (some ⟨p,0,none⟩),.slice q.am ML q.cm,.agg #[.int .i64 m1,.bool sm,.bool mx,.int .u64 t1],.agg AK]) (by kernel_rfl) ?_;refine (CWm.out k5 v5 m1 sm mx t1 bt d5.1 (HN.out.gb g5)).mono ?_;rintro e v6 ⟨q6,km6,k6,rfl,kn6,hg6,kr6,d6⟩;have g6:=cS g5 d6.2;refine ⟨_,rfl,fun _=>HFu.out v6 g6,?_⟩;simp only [Act.put,List.setIfInBounds_toArray,List.set_cons_succ,List.set_cons_zero];refine fM 9 21 (.pointer (some ⟨b4,12,none⟩)) (w':=v6) (by kernel_rfl) rfl (by kernel_rfl) (by kernel_rfl) (by kernel_rfl) (fun _=>HFu.out v6 g6) ?_;simp only [Act.put,List.setIfInBounds_toArray,List.set_cons_succ,List.set_cons_zero];obtain ⟨v7,hs7,hh7,g7⟩:=HST.out v6 q6 km6 (HFu.out v6 g6);have HS7:Hid _:=hs7;refine bL 10 rfl (T:=43) (x:=.tmp 21) (y:=.tmp 20) (by kernel_rfl) (by kernel_rfl) (by kernel_rfl) (by kernel_rfl) (b:=b4) (off:=12) (by kernel_rfl) (by kernel_rfl) HS7.out (.inl (by kernel_rfl)) ?_;refine bT (by kernel_rfl) ?_ _;have s45:=g5.size;have k6of:∀r,r<v1.heap.size→KN v6 r q6 km6:=fun r hr=>kr6 r (by omega) ⟨((HGe.out p (by omega)).gb g5).k,(HGe.out r hr).n1.mono g5.size,(HGe.out r hr).n2.mono g5.size,(HGe.out r hr).n3.mono g5.size⟩;have dW:DrewN w p f k6 v6:=⟨d6.1,cS HD.out.2 g6⟩;have k6b:KN v6 b4 q6 km6:=kr6 b4 (by omega) ⟨((HGe.out p (by omega)).gb g5).k,N4.out.1.mono g5.size,N4.out.2.1.mono g5.size,N4.out.2.2.mono g5.size⟩;have k7b:=k6b.gb g7;have kp6:=kn6;have lz:b2≠b4:=by omega
   have S7:SS w p f k6 v7 b2 b4 ⟨q.am,q.cm,q.ar,q.cr,q6.a1,q6.c1,q6.a2,q6.c2,q6.a3,q6.c3⟩ (wK5 h km6):=⟨dW.own g7 (by omega) hp,aw (aw HH2.out g6 (by omega)) g7 lz,hh7,KN.of k7b.parts.1 k7b.parts.2.1 k7b.parts.2.2 (kp6.n1.mono g7.size) (kp6.n2.mono g7.size) (kp6.n3.mono g7.size),(k6of b2 l2v).rwk.mono g7.size,hg6,fun z hz=>by
    rcases Nat.lt_or_ge z.block v1.heap.size with hz' | hz'
    ·rcases hz with hz | hz | hz
     ·exact absurd rfl ((k6of _ hz').n1 z hz).1
     ·exact absurd rfl ((k6of _ hz').n2 z hz).1
     ·exact absurd rfl ((k6of _ hz').n3 z hz).1
    ·omega⟩
   have HS7x:Hid _:=S7;clear S7 k7b k6b k6of kp6 kn6 kr6 dW hh7 g7 hs7 HS7 d6 d5;go_wp2_with fail;go_meet
   case rel=>exact ⟨_,_,_,HS7x.out⟩
 case rest=>
 clear S HN HKs N4 AS EAH;obtain ⟨q4,h4,k5,S⟩:=hcut;rename World=>v5
 as_aux_lemma=>
 have lb4:=(Array.getElem?_eq_some_iff.1 S.h4).1;go_wp2_with fail;refine (bD p f k5 4 _ S.d.1 (by omega) (by omega)).mono ?_;rintro e v6 ⟨kx,k6, -,hkx,rfl,d6⟩;replace S:=S.draw hp l2 (by omega) d6;clear d6 lb4;have JD:Hid ((Instr.loadAt 41 (.pointer (some ⟨b4,15,none⟩))).run Tryz.prog v6=.ok (.agg #[.int .i64 h4.k.d.sets,.int .i64 h4.k.d.ways,.slice q4.a2 h4.k.d.es.length q4.c2]) v6):=cw (P:=Tryz.prog) (T:=41) S.h4 Tryz.underlying41 rfl (o:=15) [.int .i64 h4.k.d.sets,.int .i64 h4.k.d.ways,.slice q4.a2 h4.k.d.es.length q4.c2] dl rfl rfl;obtain ⟨v7,hs7,P7,l7,n7⟩:=fV v6 #[.int .i64 0,.int .i64 0,.slice none 0 0] #[.int .i64 h4.k.d.sets,.int .i64 h4.k.d.ways,.slice q4.a2 h4.k.d.es.length q4.c2] 41 dl rfl (eP _ _ _ _ _);have HS7:Hid _:=hs7;have lb4:=(Array.getElem?_eq_some_iff.1 S.h4).1;have lb2:=(Array.getElem?_eq_some_iff.1 S.h2).1;have sw:=S.d.2.size;have kn7:=S.kp.keep n7;have kb:RwK v7 v6.heap.size q4:=(S.kp.new (Nat.le_refl _)).rwk.mono n7.size;have gl:=um S.good;have E:ES w p f k6 v7 b2 v6.heap.size q4.a2 q4.c2 h4.k.d:=⟨S.d.below (n7.mono sw) hp,ab S.h2 n7 lb2,P7,⟨kn7.parts.2.1,kn7.n2⟩,S.k2.2.1.mono n7.size,kb.2.1,gl.2.1,fun z hz=>S.ge z (.inr (.inl hz)),l2,by omega,by omega⟩;have JI:Hid ((Instr.loadAt 41 (.pointer (some ⟨b4,12,none⟩))).run Tryz.prog v7=.ok (.agg #[.int .i64 h4.k.i.sets,.int .i64 h4.k.i.ways,.slice q4.a1 h4.k.i.es.length q4.c1]) v7):=cw (P:=Tryz.prog) (T:=41) (ab S.h4 n7 lb4) Tryz.underlying41 rfl (o:=12) [.int .i64 h4.k.i.sets,.int .i64 h4.k.i.ways,.slice q4.a1 h4.k.i.es.length q4.c1] dl rfl rfl;have JP:Hid ((Instr.loadAt 41 (.pointer (some ⟨b4,18,none⟩))).run Tryz.prog v7=.ok (.agg #[.int .i64 h4.k.p.sets,.int .i64 h4.k.p.ways,.slice q4.a3 h4.k.p.es.length q4.c3]) v7):=cw (P:=Tryz.prog) (T:=41) (ab S.h4 n7 lb4) Tryz.underlying41 rfl (o:=18) [.int .i64 h4.k.p.sets,.int .i64 h4.k.p.ways,.slice q4.a3 h4.k.p.es.length q4.c3] dl rfl rfl;obtain ⟨vI,hsI, -,EI⟩:=E.put hp (t':=h4.k.i) (a':=q4.a1) (c':=q4.c1) ⟨kn7.parts.1,kn7.n1⟩ (S.k2.1.mono n7.size) kb.1 gl.1 (fun z hz=>S.ge z (.inl hz));obtain ⟨vP,hsP, -,EP⟩:=E.put hp (t':=h4.k.p) (a':=q4.a3) (c':=q4.c3) ⟨kn7.parts.2.2,kn7.n3⟩ (S.k2.2.2.mono n7.size) kb.2.2 gl.2.2 (fun z hz=>S.ge z (.inr (.inr hz)));have HSI:Hid _:=hsI;have HSP:Hid _:=hsP;have gw:=S.good;simp only [bs,Bool.and_eq_true] at gw;have WI:=lN gw.1.1;have WD:=lN gw.1.2;have WP:=lN gw.2;clear hsI hsP hs7 P7 n7 l7 kn7 kb gl gw S lb4 lb2 sw;go_upto_region 6 with (first | ((with_reducible refine aK ?_ JD.out ?_);(exact rfl)) | ((with_reducible refine av ?_ ?_ HS7.out ?_);(exact rfl);(exact rfl)));try simp only [Act.put]
 clear HS7 JD;generalize hb6:v6.heap.size=b6 at *;clear hb6;rcases (show kx=0∨kx=1∨(kx≠0∧kx≠1) by omega) with rfl | rfl | ⟨hk0,hk1⟩
 ·as_aux_lemma=>
   go_upto_region 10 with (first | ((with_reducible refine aK ?_ JI.out ?_);(exact rfl)) | ((with_reducible refine av ?_ ?_ HSI.out ?_);(exact rfl);(exact rfl)));clear JI JP HSI HSP E EP;go_wp2_with fail;refine (dt p f k6 7 _ EI.d.1 (by omega) (by omega)).mono ?_;rintro e v8 ⟨o8,k8, -,rfl,d8⟩;replace EI:=EI.draw hp d8;clear d8;go_upto_if 38 with fail;go_cut [] from 39 to 41 (fun wx=>∃(a:Option Addr) (c:Nat) (t:TlbM) (k':Nat),ES w p f k' wx b2 b6 a c t)
   case first=>
    cases o8
    ·go_wp2_with fail;go_meet
     case rel=>exact ⟨_,_,_,_,EI⟩
    ·have J6:Hid _:=aH (P:=Tryz.prog) (T:=41) EI.h6 Tryz.underlying41 rfl dl;go_wp2_with (first | ((with_reducible refine aK ?_ J6.out ?_);(exact rfl)));refine (iW p f k8 q4.a1 q4.c1 h4.k.i v8 EI.d.1 EI.tn EI.le WI).mono ?_;rintro e v9 ⟨a9,c9,t9,k9,rfl,⟨tn9,ge9⟩,tl9,d9⟩;have l62:=(Array.getElem?_eq_some_iff.1 EI.h6).1;have l22:=(Array.getElem?_eq_some_iff.1 EI.h2).1;have E9:=EI.draw hp d9;obtain ⟨v10,hs10, -,E10⟩:=E9.put hp (t':=t9) (a':=a9) (c':=c9) tn9 (fun z hz=>⟨by have:=ge9 z hz;omega,(tn9.n z hz).2⟩) (fun z hz=>⟨by have:=ge9 z hz;omega,(tn9.n z hz).2⟩) (by rw [tl9];exact EI.le) (fun z hz=>by have:=ge9 z hz;have:=EI.d.2.size;omega);have HS10:Hid _:=hs10;clear hs10 E9 EI tn9 ge9 tl9 d9 J6;go_wp2_with (first | ((with_reducible refine av ?_ ?_ HS10.out ?_);(exact rfl);(exact rfl)));go_meet
     case rel=>exact ⟨_,_,_,_,E10⟩
   case rest=>
   clear EI;obtain ⟨a11,c11,t11,k11,E⟩:=hcut;rename World=>v11;have J6:Hid _:=aH (P:=Tryz.prog) (T:=41) E.h6 Tryz.underlying41 rfl dl;obtain ⟨v12,hs12,hh12,g12, -⟩:=dx E.h2 #[.int .i64 t11.sets,.int .i64 t11.ways,.slice a11 t11.es.length c11] dl rfl (eP _ _ _ _ _);have HS12:Hid _:=hs12;have tk:TlbN v12 b2 a11 c11 t11:=TlbN.gb ⟨E.tn.t,E.n2⟩ g12;have tF:TlbN v12 p a11 c11 t11:=⟨tk.t,E.tn.n.mono g12.size⟩;have dF:=E.d.own g12 E.l2 hp;have eG:=E.ge;have eL:=E.le;have lv:=ba (P:=Tryz.prog) hh12 Tryz.underlying41 rfl dl;have HTF:Hid _:=tF;clear hs12 hh12 g12 tk tF E;go_wp2_with (first | ((with_reducible refine aK ?_ J6.out ?_);(exact rfl)) | ((with_reducible refine av ?_ ?_ HS12.out ?_);(exact rfl);(exact rfl)));refine iC (b:=b2) Tryz.results119 rfl rfl lv rfl ?_;exact ⟨a11,c11,t11,_,k11,rfl,HTF.out,eL,eG,dF⟩
 ·as_aux_lemma=>
   go_upto_region 10 with (first | ((with_reducible refine aK ?_ JP.out ?_);(exact rfl)) | ((with_reducible refine av ?_ ?_ HSP.out ?_);(exact rfl);(exact rfl)));clear JI JP HSI HSP E EI;go_wp2_with fail;refine (dt p f k6 7 _ EP.d.1 (by omega) (by omega)).mono ?_;rintro e v8 ⟨o8,k8, -,rfl,d8⟩;replace EP:=EP.draw hp d8;clear d8;go_upto_if 38 with fail;go_cut [] from 39 to 41 (fun wx=>∃(a:Option Addr) (c:Nat) (t:TlbM) (k':Nat),ES w p f k' wx b2 b6 a c t)
   case first=>
    cases o8
    ·go_wp2_with fail;go_meet
     case rel=>exact ⟨_,_,_,_,EP⟩
    ·have J6:Hid _:=aH (P:=Tryz.prog) (T:=41) EP.h6 Tryz.underlying41 rfl dl;go_wp2_with (first | ((with_reducible refine aK ?_ J6.out ?_);(exact rfl)));refine (iW p f k8 q4.a3 q4.c3 h4.k.p v8 EP.d.1 EP.tn EP.le WP).mono ?_;rintro e v9 ⟨a9,c9,t9,k9,rfl,⟨tn9,ge9⟩,tl9,d9⟩;have l62:=(Array.getElem?_eq_some_iff.1 EP.h6).1;have l22:=(Array.getElem?_eq_some_iff.1 EP.h2).1;have E9:=EP.draw hp d9;obtain ⟨v10,hs10, -,E10⟩:=E9.put hp (t':=t9) (a':=a9) (c':=c9) tn9 (fun z hz=>⟨by have:=ge9 z hz;omega,(tn9.n z hz).2⟩) (fun z hz=>⟨by have:=ge9 z hz;omega,(tn9.n z hz).2⟩) (by rw [tl9];exact EP.le) (fun z hz=>by have:=ge9 z hz;have:=EP.d.2.size;omega);have HS10:Hid _:=hs10;clear hs10 E9 EP tn9 ge9 tl9 d9 J6;go_wp2_with (first | ((with_reducible refine av ?_ ?_ HS10.out ?_);(exact rfl);(exact rfl)));go_meet
     case rel=>exact ⟨_,_,_,_,E10⟩
   case rest=>
   clear EP;obtain ⟨a11,c11,t11,k11,E⟩:=hcut;rename World=>v11;have J6:Hid _:=aH (P:=Tryz.prog) (T:=41) E.h6 Tryz.underlying41 rfl dl;obtain ⟨v12,hs12,hh12,g12, -⟩:=dx E.h2 #[.int .i64 t11.sets,.int .i64 t11.ways,.slice a11 t11.es.length c11] dl rfl (eP _ _ _ _ _);have HS12:Hid _:=hs12;have tk:TlbN v12 b2 a11 c11 t11:=TlbN.gb ⟨E.tn.t,E.n2⟩ g12;have tF:TlbN v12 p a11 c11 t11:=⟨tk.t,E.tn.n.mono g12.size⟩;have dF:=E.d.own g12 E.l2 hp;have eG:=E.ge;have eL:=E.le;have lv:=ba (P:=Tryz.prog) hh12 Tryz.underlying41 rfl dl;have HTF:Hid _:=tF;clear hs12 hh12 g12 tk tF E;go_wp2_with (first | ((with_reducible refine aK ?_ J6.out ?_);(exact rfl)) | ((with_reducible refine av ?_ ?_ HS12.out ?_);(exact rfl);(exact rfl)));refine iC (b:=b2) Tryz.results119 rfl rfl lv rfl ?_;exact ⟨a11,c11,t11,_,k11,rfl,HTF.out,eL,eG,dF⟩
 ·as_aux_lemma=>
   have q0:(kx == 0)=false:=by simpa using hk0
   have q1:(kx == 1)=false:=by simpa using hk1
   go_upto_region 10 with fail;clear JI JP HSI HSP EI EP;go_wp2_with fail;refine (dt p f k6 7 _ E.d.1 (by omega) (by omega)).mono ?_;rintro e v8 ⟨o8,k8, -,rfl,d8⟩;replace E:=E.draw hp d8;clear d8;go_upto_if 38 with fail;go_cut [] from 39 to 41 (fun wx=>∃(a:Option Addr) (c:Nat) (t:TlbM) (k':Nat),ES w p f k' wx b2 b6 a c t)
   case first=>
    cases o8
    ·go_wp2_with fail;go_meet
     case rel=>exact ⟨_,_,_,_,E⟩
    ·have J6:Hid _:=aH (P:=Tryz.prog) (T:=41) E.h6 Tryz.underlying41 rfl dl;go_wp2_with (first | ((with_reducible refine aK ?_ J6.out ?_);(exact rfl)));refine (iW p f k8 q4.a2 q4.c2 h4.k.d v8 E.d.1 E.tn E.le WD).mono ?_;rintro e v9 ⟨a9,c9,t9,k9,rfl,⟨tn9,ge9⟩,tl9,d9⟩;have l62:=(Array.getElem?_eq_some_iff.1 E.h6).1;have l22:=(Array.getElem?_eq_some_iff.1 E.h2).1;have E9:=E.draw hp d9;obtain ⟨v10,hs10, -,E10⟩:=E9.put hp (t':=t9) (a':=a9) (c':=c9) tn9 (fun z hz=>⟨by have:=ge9 z hz;omega,(tn9.n z hz).2⟩) (fun z hz=>⟨by have:=ge9 z hz;omega,(tn9.n z hz).2⟩) (by rw [tl9];exact E.le) (fun z hz=>by have:=ge9 z hz;have:=E.d.2.size;omega);have HS10:Hid _:=hs10;clear hs10 E9 E tn9 ge9 tl9 d9 J6;go_wp2_with (first | ((with_reducible refine av ?_ ?_ HS10.out ?_);(exact rfl);(exact rfl)));go_meet
     case rel=>exact ⟨_,_,_,_,E10⟩
   case rest=>
   clear E;obtain ⟨a11,c11,t11,k11,E⟩:=hcut;rename World=>v11;have J6:Hid _:=aH (P:=Tryz.prog) (T:=41) E.h6 Tryz.underlying41 rfl dl;obtain ⟨v12,hs12,hh12,g12, -⟩:=dx E.h2 #[.int .i64 t11.sets,.int .i64 t11.ways,.slice a11 t11.es.length c11] dl rfl (eP _ _ _ _ _);have HS12:Hid _:=hs12;have tk:TlbN v12 b2 a11 c11 t11:=TlbN.gb ⟨E.tn.t,E.n2⟩ g12;have tF:TlbN v12 p a11 c11 t11:=⟨tk.t,E.tn.n.mono g12.size⟩;have dF:=E.d.own g12 E.l2 hp;have eG:=E.ge;have eL:=E.le;have lv:=ba (P:=Tryz.prog) hh12 Tryz.underlying41 rfl dl;have HTF:Hid _:=tF;clear hs12 hh12 g12 tk tF E;go_wp2_with (first | ((with_reducible refine aK ?_ J6.out ?_);(exact rfl)) | ((with_reducible refine av ?_ ?_ HS12.out ?_);(exact rfl);(exact rfl)));refine iC (b:=b2) Tryz.results119 rfl rfl lv rfl ?_;exact ⟨a11,c11,t11,_,k11,rfl,HTF.out,eL,eG,dF⟩
end Go.Proofs.YthekickjjaleaaaGreat
