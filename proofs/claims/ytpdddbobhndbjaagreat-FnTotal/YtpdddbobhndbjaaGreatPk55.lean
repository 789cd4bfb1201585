import Derived.Laws.BytesArg
import Derived.Test.YtpdddbobhndbjaaGreatPk51
import Derived.Test.YtpdddbobhndbjaaGreatPk52
import Derived.Test.YtpdddbobhndbjaaGreatPk54
namespace Go.Proofs.YtpdddbobhndbjaaGreat
open Go.RowKit
set_option linter.unusedVariables false
set_option maxHeartbeats 6400000
set_option maxRecDepth 20000
section
attribute [local go_sem ↓] Go.wp_at_zero Go.wp_at_succ
theorem vH (a b:Option Addr) (len ca cb:Nat) (zs:List Int) (w:World) (h:RowC w a len 1 (zs.map (Value.int .u64))) (h':RowC w b len 1 (zs.map (Value.int .u64))) (hl:len<=1048576):
 Calls Tryz.prog 33 #[.slice a len ca,.slice b len cb] w fun e w'=>e=.returned (.bool true)∧∃n,w'=w.drewN n:=by
 obtain ⟨h1,h3⟩:=h;obtain ⟨_,k3⟩:=h';have hz:zs.length=len:=by simpa using h1
 have HAt:Hid (∀k,k<len->(zs.map (Value.int .u64))[k]?=some (.int .u64 (zs[k]?.getD 0))):=fun k hk=>by
  have:k<zs.length:=by omega
  simp [this]
 clear h1;go_enter Tryz.func33,Tryz.ntmps33;go_wp2;go_loopw [5] (fun i wr=>∃(k:Nat),k<=len∧i=.int .i64 k∧∃n,wr=w.drewN n) (fun i _=>len-(intOf i).toNat)
 case atStart=>exact ⟨0,Nat.zero_le _,rfl,0,rfl⟩
 case round=>
  obtain ⟨k,hk,rfl,n,rfl⟩:=hrel;by_cases hlt:k<len
  ·rcases h3 with h3 | ⟨b1,o1,rfl,hb1,hc1⟩
   ·omega
   rcases k3 with k3 | ⟨b2,o2,rfl,hb2,hc2⟩
   ·omega
   have g1:=hc1 k _ (HAt.out k hlt);have g2:=hc2 k _ (HAt.out k hlt);generalize zs[k]?.getD 0=z at g1 g2;clear hc1 hc2;go_wp2;go_quiet (fail);go_wp2;go_roundw
   case rel=>exact ⟨k+1,by omega,by go_num,n+nq,rfl⟩
   case measure=>simp [intOf];omega
  ·go_wp2;go_ret;exact ⟨rfl,n,rfl⟩
theorem sO (a b:Option Addr) (n ca cb:Nat) (es:List EvM) (w:World) (h:RowC w a n 4 (gU es)) (h':RowC w b n 4 (gU es)) (hn:es.length=n) (hl:n<=1048576):
 Calls Tryz.prog 31 #[.slice a n ca,.slice b n cb] w fun e w'=>e=.returned (.bool true)∧Below w.heap.size w w':=by
 have HR:Hid (RowC w a n 4 (gU es)):=h;have HR':Hid (RowC w b n 4 (gU es)):=h';clear h h';go_enter Tryz.func31,Tryz.ntmps31;go_wp2_with fail;go_loopw [5] (fun i wr=>∃(k:Nat),k<=n∧i=.int .i64 k∧Below w.heap.size w wr) (fun i _=>n-(intOf i).toNat)
 case atStart=>exact ⟨0,Nat.zero_le _,rfl,Below.refl _ _⟩
 case round=>
  obtain ⟨k,hk,rfl,hb⟩:=hrel;by_cases hlt:k<n
  ·obtain ⟨x,hx⟩:∃x:EvM,es[k]?=some x:=⟨_,List.getElem?_eq_getElem (by omega)⟩;have R1:=RowC.keep HR.out hb;have R2:=RowC.keep HR'.out hb;obtain ⟨b1,o1,rfl,lb1⟩:∃b1 o1,a=some ⟨b1,o1,none⟩∧b1<wr.heap.size:=by
    rcases R1.2 with h | ⟨b1,o1,h,h2,_⟩
    ·omega
    ·exact ⟨b1,o1,h,h2⟩
   obtain ⟨b2,o2,rfl,lb2⟩:∃b2 o2,b=some ⟨b2,o2,none⟩∧b2<wr.heap.size:=by
    rcases R2.2 with h | ⟨b2,o2,h,h2,_⟩
    ·omega
    ·exact ⟨b2,o2,h,h2⟩
   obtain ⟨vp,vm,vc,vt⟩:=x;have C1:=fun j u hj hu=>aD (qM R1 hn k _ hx j u hj hu) lb1;have C2:=fun j u hj hu=>aD (qM R2 hn k _ hx j u hj hu) lb2;have g0:∀u:Lies wr,u.w.cell? ⟨b1,o1+k*4,none⟩=some (.int .u64 vp):=C1 0 _ (by omega) rfl;have g1:∀u:Lies wr,u.w.cell? ⟨b1,o1+k*4+1,none⟩=some (.int .i64 vm):=C1 1 _ (by omega) rfl;have g2:∀u:Lies wr,u.w.cell? ⟨b1,o1+k*4+2,none⟩=some (.int .i64 vc):=C1 2 _ (by omega) rfl;have g3:∀u:Lies wr,u.w.cell? ⟨b1,o1+k*4+3,none⟩=some (.int .u64 vt):=C1 3 _ (by omega) rfl;have f0:∀u:Lies wr,u.w.cell? ⟨b2,o2+k*4,none⟩=some (.int .u64 vp):=C2 0 _ (by omega) rfl;have f1:∀u:Lies wr,u.w.cell? ⟨b2,o2+k*4+1,none⟩=some (.int .i64 vm):=C2 1 _ (by omega) rfl;have f2:∀u:Lies wr,u.w.cell? ⟨b2,o2+k*4+2,none⟩=some (.int .i64 vc):=C2 2 _ (by omega) rfl;have f3:∀u:Lies wr,u.w.cell? ⟨b2,o2+k*4+3,none⟩=some (.int .u64 vt):=C2 3 _ (by omega) rfl;have ne:=db wr;clear C1 C2 R1 R2 hx;go_wp2_with fail;refine bD (by kernel_rfl) (by kernel_rfl) ?_;repeat (go_big_quiet_step (fail))
   refine wpQuiet_nil ?_;rintro _ ⟨u,rfl⟩;have hb2:=Below.step hb u.h (Nat.le_refl _);generalize u.w=v2 at hb2 |-;clear g0 g1 g2 g3 f0 f1 f2 f3 hb;go_wp2_with fail;go_roundw
   case rel=>exact ⟨k+1,by omega,by go_num,hb2⟩
   case measure=>simp [intOf];omega
  ·have hkl:k=n:=by omega
   subst hkl;go_wp2_with fail;go_ret;exact ⟨rfl,hb⟩
theorem rB {w:World} {a:Option Addr} {len:Nat} {zs:List Int} (h:Byt w a len zs) (h0:0<len) (c:Nat):(convert 22 9 (.slice a len c)).run Tryz.prog w=.ok (.string (strOfNums zs)) w:=by
 rcases h.2.2 with h1 | ⟨b,off,rfl,_,hc⟩
 ·omega
 ·exact run_convert_bytes_arg (P:=Tryz.prog) w 22 5 Tryz.underlying22 Tryz.underlying5 b off len c zs h.1 (fun i hi=>by rw [hc i hi,List.getD_eq_getElem?_getD]) 9 Tryz.underlying9
theorem um (a b:Option Addr) (len ca cb:Nat) (zs:List Int) (w:World) (h:Byt w a len zs) (h':Byt w b len zs) (h0:0<len):
 Calls Tryz.prog 32 #[.slice a len ca,.slice b len cb] w fun e w'=>e=.returned (.bool true)∧w'=w:=by
 have c1:=rB h h0 ca;have c2:=rB h' h0 cb;clear h h';generalize strOfNums zs=s at c1 c2;go_enter Tryz.func32,Tryz.ntmps32;go_wp2_with fail;go_ret;simp
theorem sP (ea eb:Option Addr) (ec ed:Nat) (p q:PtrM) (evs:List EvM) (h:HartM) (w:World) (hp:RsR w ea p evs h) (hq:RsR w eb q evs h) (hb:RsB evs h) (h0:0<h.mem.length):
 Calls Tryz.prog 14 #[.agg (aW ea evs.length ec p h),.agg (aW eb evs.length ed q h)] w fun e w'=>e=.returned (.bool true)∧Below w.heap.size w w':=by
 have E0:Hid (∀u,Below w.heap.size w u->Calls Tryz.prog 31 #[.slice ea evs.length ec,.slice eb evs.length ed] u fun e w'=>e=.returned (.bool true)∧Below u.heap.size u w'):=fun u hu=>sO _ _ _ _ _ evs u (hp.ev.keep hu) (hq.ev.keep hu) rfl hb.e;have E1:Hid (∀u,Below w.heap.size w u->Calls Tryz.prog 32 #[.slice p.am h.mem.length p.cm,.slice q.am h.mem.length q.cm] u fun e w'=>e=.returned (.bool true)∧w'=u):=fun u hu=>um _ _ _ _ _ h.mem u (hp.mem.keep hu) (hq.mem.keep hu) h0;have E2:Hid (∀u,Below w.heap.size w u->Calls Tryz.prog 33 #[.slice p.ar h.regs.length p.cr,.slice q.ar h.regs.length q.cr] u fun e w'=>e=.returned (.bool true)∧Below u.heap.size u w'):=fun u hu=>(vH _ _ _ _ _ h.regs u (hp.regs.keep hu) (hq.regs.keep hu) hb.r).mono (by
  rintro e w' ⟨rfl,n,rfl⟩;exact ⟨rfl,mS _ _⟩)
 clear hp hq hb;have F:=jw w (aW ea evs.length ec p h) (aW eb evs.length ed q h) 27 27;have A0:Hid ((aW ea evs.length ec p h)[0]?=some (.slice ea evs.length ec)):=by show _=_;rfl
 have B0:Hid ((aW eb evs.length ed q h)[0]?=some (.slice eb evs.length ed)):=by show _=_;rfl
 have A1:Hid ((aW ea evs.length ec p h)[1]?=some (.slice p.am h.mem.length p.cm)):=by show _=_;rfl
 have B1:Hid ((aW eb evs.length ed q h)[1]?=some (.slice q.am h.mem.length q.cm)):=by show _=_;rfl
 have A2:Hid ((aW ea evs.length ec p h)[2]?=some (.slice p.ar h.regs.length p.cr)):=by show _=_;rfl
 have B2:Hid ((aW eb evs.length ed q h)[2]?=some (.slice q.ar h.regs.length q.cr)):=by show _=_;rfl
 have A3:Hid ((aW ea evs.length ec p h)[3]?=some (.int .u64 h.pc)):=by show _=_;rfl
 have B3:Hid ((aW eb evs.length ed q h)[3]?=some (.int .u64 h.pc)):=by show _=_;rfl
 have A4:Hid ((aW ea evs.length ec p h)[4]?=some (.int .i64 h.mode)):=by show _=_;rfl
 have B4:Hid ((aW eb evs.length ed q h)[4]?=some (.int .i64 h.mode)):=by show _=_;rfl
 have A5:Hid ((aW ea evs.length ec p h)[5]?=some (.bool h.sum)):=by show _=_;rfl
 have B5:Hid ((aW eb evs.length ed q h)[5]?=some (.bool h.sum)):=by show _=_;rfl
 have A6:Hid ((aW ea evs.length ec p h)[6]?=some (.bool h.mxr)):=by show _=_;rfl
 have B6:Hid ((aW eb evs.length ed q h)[6]?=some (.bool h.mxr)):=by show _=_;rfl
 have A7:Hid ((aW ea evs.length ec p h)[7]?=some (.int .u64 h.satp)):=by show _=_;rfl
 have B7:Hid ((aW eb evs.length ed q h)[7]?=some (.int .u64 h.satp)):=by show _=_;rfl
 have A8:Hid ((aW ea evs.length ec p h)[8]?=some (.int .u64 h.epc)):=by show _=_;rfl
 have B8:Hid ((aW eb evs.length ed q h)[8]?=some (.int .u64 h.epc)):=by show _=_;rfl
 have A9:Hid ((aW ea evs.length ec p h)[9]?=some (.int .i64 h.emode)):=by show _=_;rfl
 have B9:Hid ((aW eb evs.length ed q h)[9]?=some (.int .i64 h.emode)):=by show _=_;rfl
 have A10:Hid ((aW ea evs.length ec p h)[10]?=some (.int .i64 h.cause)):=by show _=_;rfl
 have B10:Hid ((aW eb evs.length ed q h)[10]?=some (.int .i64 h.cause)):=by show _=_;rfl
 have A11:Hid ((aW ea evs.length ec p h)[11]?=some (.int .u64 h.tval)):=by show _=_;rfl
 have B11:Hid ((aW eb evs.length ed q h)[11]?=some (.int .u64 h.tval)):=by show _=_;rfl
 generalize aW ea evs.length ec p h=A at *;generalize aW eb evs.length ed q h=B at *;go_enter Tryz.func14,Tryz.ntmps14;go_upto_region 1 with fail;generalize (w.alloc (Obj.cells A 27)).alloc (Obj.cells B 27)=u0 at F |-;obtain ⟨f1,f2,hz,n0⟩:=F;have H1:Hid _:=f1;have H2:Hid _:=f2;clear f1 f2;have c0:=ab H1.out 0 A0.out;have d0:=ab H2.out 0 B0.out;go_wp2_with fail;refine (E0.out u0 n0).mono ?_;rintro e u1 ⟨rfl,m0⟩;have n1:=Below.step n0 m0 (Nat.le_refl _);replace H1:=ah H1 m0;replace H2:=ah H2 m0;clear c0 d0;have c1:=ab H1.out 1 A1.out;have d1:=ab H2.out 1 B1.out;have c2:=ab H1.out 2 A2.out;have d2:=ab H2.out 2 B2.out;go_wp2_with fail;refine (E1.out u1 n1).mono ?_;rintro e _ ⟨rfl,rfl⟩;go_wp2_with fail;refine (E2.out _ n1).mono ?_;rintro e u3 ⟨rfl,m2⟩;have n3:=Below.step n1 m2 (Nat.le_refl _);replace H1:=ah H1 m2;replace H2:=ah H2 m2;clear c1 d1 c2 d2;have c3:=ab H1.out 3 A3.out;have d3:=ab H2.out 3 B3.out;have c4:=ab H1.out 4 A4.out;have d4:=ab H2.out 4 B4.out;have c5:=ab H1.out 5 A5.out;have d5:=ab H2.out 5 B5.out;have c6:=ab H1.out 6 A6.out;have d6:=ab H2.out 6 B6.out;have c7:=ab H1.out 7 A7.out;have d7:=ab H2.out 7 B7.out;have c8:=ab H1.out 8 A8.out;have d8:=ab H2.out 8 B8.out;have c9:=ab H1.out 9 A9.out;have d9:=ab H2.out 9 B9.out;have c10:=ab H1.out 10 A10.out;have d10:=ab H2.out 10 B10.out;have c11:=ab H1.out 11 A11.out;have d11:=ab H2.out 11 B11.out;go_wp2_with fail;go_ret;exact ⟨rfl,n3⟩
end
section
attribute [local go_sem ↓] Go.wp_at_zero Go.wp_at_succ
theorem rslt_put (v:World) (V:Array Value) (hs:V.size=12) (h1:V.all (·.oneCell')=true):
 ∃v',(Instr.storeAt 27 (.pointer (some ⟨v.heap.size,0,none⟩)) (.agg V)).run Tryz.prog (v.alloc (Obj.cells js 27))=.ok () v'∧v'.heap[v.heap.size]?=some (.cells V 27 (0,0))∧v.heap.size<v'.heap.size∧Bw v v':=by
 have a:=bS v js 27;refine ⟨_,bh (P:=Tryz.prog) (T:=27) a.1 (by rw [hs];exact ou) (by rw [hs];rfl) h1,aT a.1 (by rw [hs];rfl),?_,?_⟩
 ·rw [cS,a.2.1];exact Nat.lt_succ_self _
 ·exact aS (Nat.le_refl _) _ _ _ a.2.2
theorem box_rslt {v:World} {g:Nat} {V:Array Value} (hs:V.size=12) (h:v.heap[g]?=some (.cells V 27 (0,0))):(Instr.loadAt 27 (.pointer (some ⟨g,0,none⟩))).run Tryz.prog v=.ok (.agg V) v:=
 be h Tryz.underlying27 rfl (by rw [hs];exact ou)
theorem ldp {v:World} {b i n m:Nat} {a:Option Addr} (h:v.cell? ⟨b,i,none⟩=some (.slice a n m)):(Instr.loadAt 42 (.pointer (some ⟨b,i,none⟩))).run Tryz.prog v=.ok (.slice a n m) v:=by go_simp
theorem xR (a0:Option Addr) (len0 cap0:Nat) (zs:List Int) (w:World) (hB:Byt w a0 len0 zs) (hlc:len0<=cap0) (hcm:cap0<=9223372036854775807):
 Calls Tryz.prog 4 #[.slice a0 len0 cap0] w fun e w'=>e=.returned (.bool true)∧Bw w w':=by
 have HBD:Hid (∀i:Nat,0<=zs[i]?.getD 0∧zs[i]?.getD 0<=255):=hB.2.1;by_cases hlen:len0<=1048576
 ·have hok:=qB HBD.out;have pl:=pM zs;have CS:Hid (∀(v:World),Bw w v->Calls Tryz.prog 5 #[.slice a0 len0 cap0,.bool false] v fun e w'=>(∃ea ec q,e=.returned (.agg (aW ea (dX false (cf zs) (bq zs)).1.length ec q (dX false (cf zs) (bq zs)).2))∧RsR w' ea q (dX false (cf zs) (bq zs)).1 (dX false (cf zs) (bq zs)).2)∧Bw v w'):=fun v hb=>(qa a0 len0 cap0 zs false v (hB.keep hb) hlen).mono fun e w' ⟨⟨ea,ec,q,h1,h2,h3⟩,n⟩=>⟨⟨ea,ec,q,h1,⟨h2,h3.mem,h3.regs⟩⟩,n⟩;have CI:Hid (∀(v:World),Bw w v->Calls Tryz.prog 7 #[.slice a0 len0 cap0,.bool false] v fun e w'=>(∃ge ec q,e=.returned (.agg (aW (some ⟨ge,0,none⟩) (dX false (cf zs) (bq zs)).1.length ec q (dX false (cf zs) (bq zs)).2))∧RsW v.heap.size w' ge ec q (dX false (cf zs) (bq zs)).1 (dX false (cf zs) (bq zs)).2)∧Bw v w'):=fun v hb=>pV a0 len0 cap0 zs false v (hB.keep hb) hlen;have CD:Hid (∀(v:World),Bw w v->Calls Tryz.prog 13 #[.slice a0 len0 cap0] v (mm v (bq zs) (cf zs))):=fun v hb=>kH a0 len0 cap0 zs v (hB.keep hb) hlen;obtain ⟨ml,el,rk⟩:=Ad false (cf zs) (bq zs) hok (ow HBD.out);have hsz:=rk.v.size;simp only [ez,decide_eq_true_eq] at hsz;have hrg:=rk.v.regs;have HBM:Hid _:=rk.mem;generalize (dX false (cf zs) (bq zs)).1=evs at *;generalize (dX false (cf zs) (bq zs)).2=hh at *;generalize bq zs=h0 at *;generalize cf zs=ps at *;have hb:RsB evs hh:=⟨by omega,by omega,by omega⟩;clear hok rk;have EQ:Hid (∀(ge ec eb:Nat) (q p:PtrM) (ea:Option Addr) (base:Nat) (v:World),RsW base v ge ec q evs hh->RsR v ea p evs hh->Calls Tryz.prog 14 #[.agg (aW (some ⟨ge,0,none⟩) evs.length ec q hh),.agg (aW ea evs.length eb p hh)] v fun e w'=>e=.returned (.bool true)∧Bw v w'):=fun ge ec eb q p ea base v ho hr=>sP _ ea ec eb q p evs hh v (RsO.read ho HBM.out) hr hb (by omega);clear HBM;go_enter Tryz.func4,Tryz.ntmps4;go_wp2_with fail;refine (CI.out w (Below.refl _ _)).mono ?_;rintro e v1 ⟨⟨ge,ec,q,rfl,o1⟩,n1⟩;obtain ⟨v2,hs2,P2,l2,n2⟩:=rslt_put v1 (aW (some ⟨ge,0,none⟩) evs.length ec q hh) rfl (kY _ _ _ _ _);have O2:Hid (RsW w.heap.size v2 ge ec q evs hh):=o1.keep n2;have EG:Hid (∀(eb:Nat) (p:PtrM) (ea:Option Addr) (v:World),RsW w.heap.size v ge ec q evs hh->RsR v ea p evs hh->Calls Tryz.prog 14 #[.agg (aW (some ⟨ge,0,none⟩) evs.length ec q hh),.agg (aW ea evs.length eb p hh)] v fun e w'=>e=.returned (.bool true)∧Bw v w'):=fun eb p ea v h1 h2=>EQ.out ge ec eb q p ea _ v h1 h2;have A0:Hid ((aW (some ⟨ge,0,none⟩) evs.length ec q hh)[0]?=some (.slice (some ⟨ge,0,none⟩) ps.length ec)):=by rw [<-el];show _=_;rfl
  have A1:Hid ((aW (some ⟨ge,0,none⟩) evs.length ec q hh)[1]?=some (.slice q.am h0.mem.length q.cm)):=by rw [<-ml];show _=_;rfl
  have A2:Hid ((aW (some ⟨ge,0,none⟩) evs.length ec q hh)[2]?=some (.slice q.ar 8 q.cr)):=by rw [<-hrg];show _=_;rfl
  have SG:(aW (some ⟨ge,0,none⟩) evs.length ec q hh).size=12:=rfl;generalize aW (some ⟨ge,0,none⟩) evs.length ec q hh=G at *;have HS2:Hid _:=hs2;have Q2:Hid (v2.heap[v1.heap.size]?=some (.cells G 27 (0,0))):=P2;have N2:=bst n1 n2;clear hs2 P2 n2 n1 o1 EQ;go_upto_region 4 with (first | ((with_reducible refine aG ?_ ?_ HS2.out ?_);(exact rfl);(exact rfl)));clear HS2;go_wp2_with fail;refine (CD.out v2 N2).mono ?_;rintro e v3 ⟨⟨p,pa,pc,rfl,hi,_,op⟩,n3⟩;obtain ⟨v4,hs4,P4,l4,n4⟩:=rD v3 (cu p pa pc h0 ps) rfl (je _ _ _ _ _);have B0:Hid ((cu p pa pc h0 ps)[0]?=some (.slice p.am h0.mem.length p.cm)):=by show _=_;rfl
  have B21:Hid ((cu p pa pc h0 ps)[21]?=some (.slice pa ps.length pc)):=by show _=_;rfl
  generalize cu p pa pc h0 ps=S at *;have HS4:Hid _:=hs4;have n34:=bst n3 n4;have N4:=bst N2 n34;have Q4:=ah Q2 n34;have O4:Hid (RsW w.heap.size v4 ge ec q evs hh):=O2.out.keep n34;have S4:Hid (v4.heap[v3.heap.size]?=some (.cells S 44 (0,0))):=P4;clear hs4 P4 n4 n3 n34 Q2 O2 N2 hi op;go_upto_region 5 with (first | ((with_reducible refine aG ?_ ?_ HS4.out ?_);(exact rfl);(exact rfl)));clear HS4;have c0:=ab Q4.out 0 A0.out;have c1:=ab Q4.out 1 A1.out;have c2:=ab Q4.out 2 A2.out;have d0:=ab S4.out 0 B0.out;have d21:=ab S4.out 21 B21.out;have l41:v1.heap.size<v4.heap.size:=(Array.getElem?_eq_some_iff.1 Q4.out).1;have l43:v3.heap.size<v4.heap.size:=(Array.getElem?_eq_some_iff.1 S4.out).1;go_upto_region 7 with fail;by_cases hbig:400<ps.length
  ·have hb2:decide ((400:Int)<(ps.length:Int))=true:=by simp;omega
   go_quiet (fail);go_wp2_with fail;go_ret;exact ⟨rfl,below_drewN N4 _⟩
  ·have hF:=bdr v4;have HL1:=hid fun u (hu:Bw v4 u)=>ldp (ab (ah S4 hu).out 21 B21.out);have HLr:=hid fun u (hu:Bw v4 u)=>box_rslt SG (ah Q4 hu).out;clear c0 c1 c2 d0 d21;refine aN (Bw v4) 10 (by kernel_rfl) ?_;refine lj 0 35 (.pointer (some ⟨v3.heap.size,21,none⟩)) rfl hF ?_;simp only [aPt,sTa,sCs,sCz];refine lj 1 36 _ rfl hF ?_ (hy:=fun u hu=>aX rfl (HL1.out u hu));refine lj 2 37 (.int .i64 ps.length) rfl hF ?_;simp only [aPt,sTa,sCs,sCz];refine lj 3 38 (.bool false) rfl hF ?_ (hy:=fun u hu=>by go_simp;omega);refine lj 4 39 (.bool false) rfl hF ?_;simp only [aPt,sTa,sCs,sCz];refine lj 5 40 _ rfl hF ?_ (hy:=fun u hu=>aX rfl (HLr.out u hu));refine lj 6 41 (.slice a0 len0 cap0) rfl hF ?_;simp only [aPt,sTa,sCs,sCz];refine uB 7 42 rfl ((CS.out _ (bst N4 hF)).mono ?_);rintro e v5 ⟨⟨ea,eb,p,rfl,hr⟩,n5⟩;have b5:=bst hF n5;refine ⟨_,rfl,fun _=>b5,?_⟩;simp only [aPt,sTa,sCs,sCz];refine uB 8 43 rfl ((EG.out eb p ea v5 (O4.out.keep b5) hr).mono ?_);rintro e v6 ⟨rfl,n6⟩;have b6:=bst b5 n6;refine ⟨_,rfl,fun _=>b6,?_⟩;simp only [aPt,sTa,sCs,sCz];refine lj 9 44 (.bool true) rfl b6 ?_;simp only [aPt,sTa,sCs,sCz];refine zH 10 rfl ?_;go_wp2_with fail;go_ret;exact ⟨rfl,bst N4 b6⟩
 ·go_enter Tryz.func4,Tryz.ntmps4;go_wp2_with fail;go_ret;exact ⟨rfl,Below.refl _ _⟩
end
end Go.Proofs.YtpdddbobhndbjaaGreat
