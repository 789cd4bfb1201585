import Derived.Test.YtgnnmgfgfihljaaGreatPk40
import Derived.Test.YtgnnmgfgfihljaaGreatPk21
namespace Go.Proofs.YtgnnmgfgfihljaaGreat
open Go.RowKit
set_option linter.unusedVariables false
set_option maxHeartbeats 6400000
set_option maxRecDepth 20000
section
attribute [local go_sem ↓] Go.wp_at_zero Go.wp_at_succ
abbrev ur:Array Value:=#[.slice none 0 0,.slice none 0 0,.int .u64 0,.int .i64 0,.bool false,.bool false,.int .u64 0,.int .u64 0,.int .u64 0,.int .i64 0,.int .i64 0,.int .u64 0,.int .i64 0,.int .i64 0,.slice none 0 0,.int .i64 0,.int .i64 0,.slice none 0 0,.int .i64 0,.int .i64 0,.slice none 0 0,.slice none 0 0]
structure DecIn (w v:World) (hb:Nat) (p:PtrM) (h:HartM):Prop where
 box:v.heap[hb]?=some (.cells (ah p h) 39 (0,0))
 res:v.heap[w.heap.size]?=some (.cells ur 83 (0,0))
 low:w.heap.size<hb
 mem:v.ownsRow (hb+1) 5 1 (.slice p.am h.mem.length p.cm) h.mem.length (ja h.mem)
 ks:∃u:World,u.heap.size=hb∧KRows (w.heap.size+1) u p h.k∧Below hb u v
 below:Below w.heap.size w v
theorem DecIn.lt {w v:World} {hb:Nat} {p:PtrM} {h:HartM} (d:DecIn w v hb p h):hb<v.heap.size:=(hpl d.box)
theorem DecIn.keep {w v v':World} {hb:Nat} {p:PtrM} {h:HartM} (d:DecIn w v hb p h) (hn:Below v.heap.size v v'):DecIn w v' hb p h:=by
 obtain ⟨u,h1,h2,h3⟩:=d.ks;have:=d.lt;have:=d.low;exact ⟨ae d.box hn d.lt,ae d.res hn (by omega),d.low,ag d.mem hn,⟨u,h1,h2,h3.trans (hn.mono (by omega))⟩,bst d.below hn⟩
theorem DecIn.cell {w v:World} {hb:Nat} {p:PtrM} {h h':HartM} (d:DecIn w v hb p h) (i:Nat) (x:Value) (hA:(ah p h).setIfInBounds i x=ah p h') (hm:h'.mem=h.mem) (hk:h'.k=h.k):DecIn w (v.setCell ⟨hb,i,none⟩ x) hb p h':=by
 obtain ⟨u,h1,h2,h3⟩:=d.ks;have hh:=d.low;refine ⟨?_,ba d.res i x (by omega),d.low,?_,⟨u,h1,by rw [hk];exact h2,h3.setCell nle _⟩,d.below.setCell (p:=⟨hb,i,none⟩) (by show w.heap.size<=hb;omega) _⟩
 ·rw [<-hA];exact cu d.box i x
 ·rw [hm];exact fH d.mem d.box (by decide) (ak (au v (some hb)) i x)
theorem DecIn.put {w v v5:World} {hb g c:Nat} {p:PtrM} {h:HartM} {m:List Int} (d:DecIn w v hb p h) (hn:Below (hb+1) v v5) (ho:v5.ownsRow (hb+1) 5 1 (.slice (some ⟨g,0,none⟩) m.length c) m.length (ja m)):
 DecIn w (v5.setCell ⟨hb,0,none⟩ (.slice (some ⟨g,0,none⟩) m.length c)) hb ⟨some ⟨g,0,none⟩,c,p.ar,p.cr,p.a1,p.c1,p.a2,p.c2,p.a3,p.c3⟩ (dF h m):=by
 obtain ⟨u,h1,h2,h3⟩:=d.ks;have hh:=d.low;have hl:=d.lt;have b5:=(hn.block _ (by omega)).trans d.box;refine ⟨?_,ba ((hn.block _ (by omega)).trans d.res) 0 _ (by omega),d.low,?_,⟨u,h1,h2,(h3.trans (hn.mono (by omega))).setCell nle _⟩,(d.below.trans (hn.mono (by omega))).setCell (p:=⟨hb,0,none⟩) (by show w.heap.size<=hb;omega) _⟩
 ·exact cu b5 0 _
 ·exact fH ho b5 (by decide) (ak (au v5 (some hb)) 0 _)
end
section
attribute [local go_sem ↓] Go.wp_at_zero Go.wp_at_succ
def xY (p:PtrM) (pa:Option Addr) (pc:Nat) (h:HartM) (ps:List Int):Array Value:=#[.slice p.am h.mem.length p.cm,.slice p.ar h.regs.length p.cr,.int .u64 h.pc,.int .i64 h.mode,.bool h.sum,.bool h.mxr,.int .u64 h.satp,.int .u64 h.tvec,.int .u64 h.epc,.int .i64 h.emode,.int .i64 h.cause,.int .u64 h.tval,
 .int .i64 h.k.i.sets,.int .i64 h.k.i.ways,.slice p.a1 h.k.i.es.length p.c1,.int .i64 h.k.d.sets,.int .i64 h.k.d.ways,.slice p.a2 h.k.d.es.length p.c2,.int .i64 h.k.p.sets,.int .i64 h.k.p.ways,.slice p.a3 h.k.p.es.length p.c3,.slice pa ps.length pc]
def At (zs:List Int):List Value:=zs.map (Value.int .i64)
theorem DecIn.gb {w u v:World} {hb:Nat} {p p':PtrM} {h h':HartM} (d:DecIn w u hb p h) (g:u.grownBy v (some hb)) (hx:v.heap[hb]?=some (.cells (ah p' h') 39 (0,0))) (hm:p'.am=p.am∧p'.cm=p.cm∧h'.mem=h.mem) (hk:p'.a1=p.a1∧p'.c1=p.c1∧p'.a2=p.a2∧p'.c2=p.c2∧p'.a3=p.a3∧p'.c3=p.c3∧h'.k=h.k):DecIn w v hb p' h':=by
 obtain ⟨x,h1,h2,h3⟩:=d.ks;have hl:=d.low;have hl2:=d.lt;refine ⟨hx,aQ d.res g (by omega),d.low,?_,⟨x,h1,?_,h3.trans ⟨g.os,g.tape,g.output,g.size,fun k hk=>g.block k (by omega) (by simp;omega)⟩⟩,d.below.trans ⟨g.os,g.tape,g.output,g.size,fun k hk=>g.block k (by omega) (by simp;omega)⟩⟩
 ·rw [hm.1,hm.2.1,hm.2.2];exact fH d.mem d.box (by decide) g
 ·unfold KRows at h2 |-;rw [hk.1,hk.2.1,hk.2.2.1,hk.2.2.2.1,hk.2.2.2.2.1,hk.2.2.2.2.2.1,hk.2.2.2.2.2.2];exact h2
structure DecEnd (w v:World) (hb:Nat) (q:PtrM) (h:HartM):Prop where
 box:v.heap[hb]?=some (.cells (ah q h) 39 (0,0))
 res:v.heap[w.heap.size]?=some (.cells ur 83 (0,0))
 low:w.heap.size<hb
 mem:v.ownsRow (hb+1) 5 1 (.slice q.am h.mem.length q.cm) h.mem.length (ja h.mem)
 memb:∀z∈h.mem,0<=z∧z<=255
 regs:v.ownsRow (hb+1) 24 1 (.slice q.ar h.regs.length q.cr) h.regs.length (cH h.regs)
 ks:KRows (w.heap.size+1) v q h.k
 below:Below w.heap.size w v
end
section
attribute [local go_sem ↓] Go.wp_at_zero Go.wp_at_succ
theorem Byt.gb0 {w w':World} {a:Option Addr} {len r:Nat} {zs:List Int} (h:Byt w a len zs) (hg:w.grownBy w' (some r)) (hne:0<len->∀q,a=some q->q.block≠r):Byt w' a len zs:=by
 rcases Nat.eq_zero_or_pos len with h0 | h0
 ·exact ⟨h.1,h.2.1,.inl h0⟩
 ·exact h.gb' hg (hne h0)
structure RdAt (w:World) (b:Nat) (a:Option Addr) (len cap:Nat) (zs:List Int) (p:Nat):Prop where
 box:w.heap[b]?=some (.cells #[.slice a len cap,.int .i64 ((min p len:Nat):Int)] 136 (0,0))
 byt:Byt w a len zs
 ne:0<len->∀q,a=some q->q.block≠b
 len:len<=1048576
theorem RdAt.lt {w:World} {b:Nat} {a:Option Addr} {len cap:Nat} {zs:List Int} {p:Nat} (h:RdAt w b a len cap zs p):b<w.heap.size:=(hpl h.box)
theorem RdAt.keep {w w':World} {b:Nat} {a:Option Addr} {len cap:Nat} {zs:List Int} {p:Nat} (h:RdAt w b a len cap zs p) (hn:Below w.heap.size w w'):RdAt w' b a len cap zs p:=
 ⟨ae h.box hn h.lt,h.byt.keep hn,h.ne,h.len⟩
theorem RdAt.gb {w w':World} {b r:Nat} {a:Option Addr} {len cap:Nat} {zs:List Int} {p:Nat} (h:RdAt w b a len cap zs p) (hg:w.grownBy w' (some r)) (hb:b≠r) (ha:0<len->∀q,a=some q->q.block≠r):RdAt w' b a len cap zs p:=
 ⟨aQ h.box hg hb,h.byt.gb0 hg ha,h.ne,h.len⟩
theorem RdAt.step {w w':World} {b:Nat} {a:Option Addr} {len cap:Nat} {zs:List Int} {p p':Nat} (h:RdAt w b a len cap zs p) (hg:w.grownBy w' (some b)) (hb:w'.heap[b]?=some (.cells #[.slice a len cap,.int .i64 ((min p' len:Nat):Int)] 136 (0,0))):RdAt w' b a len cap zs p':=
 ⟨hb,h.byt.gb0 hg h.ne,h.ne,h.len⟩
end
section
attribute [local go_sem ↓] Go.wp_at_zero Go.wp_at_succ
theorem je (m:Int) (w:World):Calls Tryz.prog 93 #[.int .i64 m] w fun e w'=>e=.returned (.bool (decide (0<=m∧m<=2)))∧w'=w:=by
 by_cases h1:0<=m
 ·by_cases h2:m<=2
  ·go_enter Tryz.func93,Tryz.ntmps93;go_wp2_with fail;go_ret;exact ⟨aB (by simp [h1,h2]),rfl⟩
  ·go_enter Tryz.func93,Tryz.ntmps93;go_wp2_with fail;go_ret;exact ⟨aB (by simp [h2]),rfl⟩
 ·go_enter Tryz.func93,Tryz.ntmps93;go_wp2_with fail;go_ret;exact ⟨aB (by simp;omega),rfl⟩
theorem ie (x:Int) (w:World) (h0:0<=x) (h1:x<=18446744073709551615):Calls Tryz.prog 94 #[.int .u64 x] w fun e w'=>e=.returned (.bool (dE x))∧w'=w:=by
 have HS:Hid (dE x=(x/1152921504606846976 == 0 || x/1152921504606846976 == 8)):=by
  show _=_;unfold dE;rw [show x/1152921504606846976%16=x/1152921504606846976 by omega]
 have hq:0<=x/1152921504606846976∧x/1152921504606846976<=15:=by omega
 rw [HS.out];clear HS;by_cases hz:x/1152921504606846976=0
 ·go_enter Tryz.func94,Tryz.ntmps94;go_wp2_with fail;go_ret;exact ⟨aB (by simp [hz]),rfl⟩
 ·have hz':(x/1152921504606846976 == 0)=false:=by simpa using hz
  go_enter Tryz.func94,Tryz.ntmps94;go_wp2_with fail;go_ret;exact ⟨aB (by simp [hz]),rfl⟩
end
theorem iP {P:Program} {ops:Array Oper} {Q:Exit->Act->World->Prop} {rest:List Oper} {a:Act} {d:Tmp} {T ty:TypeId} {x:Operand} {pos:String} {af:Array Edge} {g:Option (Nat × Bool)} {w:World} {b o:Nat} {V:Value} (hw:Region.wanted { dst:=some d,op:=.load T x,type:=ty,pos:=pos,after:=af,guard:=g } (yielded ops a.tmps)=true) (hx:a.eval x=.pointer (some ⟨b,o,none⟩)) (hl:(Instr.loadAt T (.pointer (some ⟨b,o,none⟩))).run P w=.ok V w)
 (h:wpList P ops Q rest (a.put (some d) V) w):wpList P ops Q ({ dst:=some d,op:=.load T x,type:=ty,pos:=pos,after:=af,guard:=g }::rest) a w:=
 wpList_step fun K hK=>by
  rw [if_pos hw];unfold Oper.wp execOp;simp only [hx,Sem.run_bind,hl,Result.andThen_ok,Sem.run_pure];exact hK _ _ h
section
attribute [local go_sem ↓] Go.wp_at_zero Go.wp_at_succ
def fK (h:HartM):Prop:=((h.mem.length:Int)%64=0∧64<=(h.mem.length:Int)∧(h.mem.length:Int)<=4096)∧(h.regs.length:Int)=8∧h.regs[0]?.getD 0=0∧(0<=h.mode∧h.mode<=2)∧(0<=h.emode∧h.emode<=2)∧dE h.satp=true∧h.tvec%4=0∧(0<=h.cause∧h.cause<=63)
theorem gz (h:HartM):(dU h.mem.length && fl h)=true↔fK h:=by
 simp only [dU,fl,fK,Bool.and_eq_true,decide_eq_true_eq,beq_iff_eq];constructor
 ·rintro ⟨⟨a,b,c⟩,⟨⟨⟨⟨⟨⟨d,e⟩,f⟩,g⟩,i⟩,j⟩,k⟩⟩;exact ⟨⟨by omega,by omega,by omega⟩,by omega,e,f,g,i,j,k⟩
 ·rintro ⟨⟨a,b,c⟩,d,e,f,g,i,j,k⟩;exact ⟨⟨by omega,by omega,by omega⟩,⟨⟨⟨⟨⟨⟨by omega,e⟩,f⟩,g⟩,i⟩,j⟩,k⟩⟩
theorem sa {w:World} {a:Option Addr} {xs:List Int} (h:RowC w a xs.length 1 (cH xs)) (h8:xs.length=8):∃b off,a=some ⟨b,off,none⟩∧b<w.heap.size∧w.cell? ⟨b,off,none⟩=some (.int .u64 (xs[0]?.getD 0)):=by
 rcases h.2 with h0 | ⟨b,off,rfl,hlt,hc⟩
 ·omega
 ·refine ⟨b,off,rfl,hlt,?_⟩;have:=hc 0 (.int .u64 (xs[0]?.getD 0)) (by
   have:0<xs.length:=by omega
   simp [cH,List.getElem?_eq_getElem this])
  simpa using this
theorem oV (p:PtrM) (h:HartM) (w:World) (hi:HartIn w p h) (s0:0<=h.satp) (s1:h.satp<=18446744073709551615) (t0:0<=h.tvec) (h8:h.regs.length=8):
 Calls Tryz.prog 25 #[.agg (ah p h)] w fun e w'=>e=.returned (.bool (cJ h))∧Below w.heap.size w w':=by
 have F:=bL w (ah p h) 39;have A0:Hid ((ah p h)[0]?=some (.slice p.am h.mem.length p.cm)):=by show _=_;rfl
 have A1:Hid ((ah p h)[1]?=some (.slice p.ar h.regs.length p.cr)):=by show _=_;rfl
 have A3:Hid ((ah p h)[3]?=some (.int .i64 h.mode)):=by show _=_;rfl
 have A6:Hid ((ah p h)[6]?=some (.int .u64 h.satp)):=by show _=_;rfl
 have A7:Hid ((ah p h)[7]?=some (.int .u64 h.tvec)):=by show _=_;rfl
 have A9:Hid ((ah p h)[9]?=some (.int .i64 h.emode)):=by show _=_;rfl
 have A10:Hid ((ah p h)[10]?=some (.int .i64 h.cause)):=by show _=_;rfl
 have KP:Hid (((ah p h).toList.drop 12).take 9=(kA p h.k).toList):=by show _=_;rfl
 obtain ⟨R,hR⟩:∃R,cJ h=R:=⟨_,rfl⟩;have HF:Hid (R=true->fK h∧bf h.k=true):=fun hr=>by
  rw [<-hR,cJ,Bool.and_eq_true] at hr;exact ⟨(gz h).1 hr.1,hr.2⟩
 have HT:Hid (fK h->bf h.k=true->R=true):=fun h1 h2=>by
  rw [<-hR,cJ,Bool.and_eq_true];exact ⟨(gz h).2 h1,h2⟩
 unfold fK at HF HT;rw [hR];have S1:Hid (∀u,Calls Tryz.prog 47 #[.int .u64 h.satp] u fun e w'=>e=.returned (.bool (dE h.satp))∧Below u.heap.size u w'):=fun u=>jp h.satp u s0 s1;have S2:Hid (∀u,Below w.heap.size w u->Calls Tryz.prog 48 #[.agg (kA p h.k)] u fun e w'=>e=.returned (.bool (bf h.k))∧Below u.heap.size u w'):=fun u hu=>dB _ h.k u (hi.ks.keep hu);obtain ⟨rb,ro,hra,rlt,rc⟩:=sa hi.regs h8;have g8:(h.regs.length:Int)=8:=by omega
 rw [hra] at A1;clear hi hR h8;generalize ah p h=A at *;generalize h.mem.length=n at *;generalize h.regs.length=m at *;generalize h.regs[0]?.getD 0=r0 at *;go_enter Tryz.func25,Tryz.ntmps25;go_upto_region 1 with fail;generalize (w.alloc (Obj.cells A 39))=u0 at F |-;obtain ⟨f1,hz,nB⟩:=F;have H1:Hid _:=f1;clear f1;have m8:m=8:=by omega
 subst m8;have x0:u0.cell? ⟨rb,ro,none⟩=some (.int .u64 r0):=(nB.cell (by exact rlt)).trans rc;clear rc;have c0:=aa H1.out 0 A0.out;have c1:=aa H1.out 1 A1.out;have c3:=aa H1.out 3 A3.out;have c6:=aa H1.out 6 A6.out;have c7:=aa H1.out 7 A7.out;have c9:=aa H1.out 9 A9.out;have c10:=aa H1.out 10 A10.out;go_wp2_with fail
 any_goals (
  go_ret;refine ⟨?_,nB⟩;have hq:R=false:=(by
   cases R with
   | false=>rfl
   | true=>
    obtain ⟨⟨⟨q1,q2,q3⟩,q4,q5,⟨q6,q7⟩,⟨q8,q9⟩,q10,q11,⟨q12,q13⟩⟩,q14⟩:=HF.out rfl;first
    | (exfalso;omega)
    | (rw [hs] at q10;cases q10)
    | (rw [hs] at q14;cases q14))
  subst hq;exact rfl)
 refine (S1.out u0).mono ?_;rintro e u1 ⟨rfl,k1⟩;replace nB:=bst nB k1;replace H1:=ab H1 k1;clear c0 c1 c3 c6 c7 c9 c10 x0 k1;have c7:=aa H1.out 7 A7.out;have c10:=aa H1.out 10 A10.out;have J1:Hid _:=bY (P:=Tryz.prog) (T:=37) H1.out Tryz.underlying37 rfl (o:=12) (kA p h.k).toList kI KP.out rfl;rw [show (kA p h.k).toList.toArray=kA p h.k from rfl] at J1;generalize kA p h.k=KA at *;rcases Bool.eq_false_or_eq_true (dE h.satp) with hs | hs
 rotate_left 1
 ·rw [hs];go_wp2_with fail
  any_goals (
   go_ret;refine ⟨?_,nB⟩;have hq:R=false:=(by
    cases R with
    | false=>rfl
    | true=>
     obtain ⟨⟨⟨q1,q2,q3⟩,q4,q5,⟨q6,q7⟩,⟨q8,q9⟩,q10,q11,⟨q12,q13⟩⟩,q14⟩:=HF.out rfl;first
     | (exfalso;omega)
     | (rw [hs] at q10;cases q10)
     | (rw [hs] at q14;cases q14))
   subst hq;exact rfl)
 have HS:Hid (dE h.satp=true):=hs;rw [hs];clear hs;go_wp2_with (first | ((with_reducible refine iP ?_ ?_ J1.out ?_);(exact rfl);(exact rfl)))
 any_goals (
  go_ret;refine ⟨?_,nB⟩;have hq:R=false:=(by
   cases R with
   | false=>rfl
   | true=>
    obtain ⟨⟨⟨q1,q2,q3⟩,q4,q5,⟨q6,q7⟩,⟨q8,q9⟩,q10,q11,⟨q12,q13⟩⟩,q14⟩:=HF.out rfl;first
    | (exfalso;omega)
    | (rw [hs] at q10;cases q10)
    | (rw [hs] at q14;cases q14))
  subst hq;exact rfl)
 refine (S2.out u1 nB).mono ?_;rintro e u2 ⟨rfl,k2⟩;replace nB:=bst nB k2;clear c7 c10 k2 H1 J1;have HG:Hid (bf h.k=R):=by
  show _=_;rcases Bool.eq_false_or_eq_true (bf h.k) with hg | hg
  ·rw [hg];exact (HT.out ⟨⟨by assumption,by assumption,by assumption⟩,by omega,by omega,⟨by omega,by omega⟩,⟨by omega,by omega⟩,HS.out,by omega,⟨by omega,by omega⟩⟩ hg).symm
  ·rw [hg];cases R with
   | false=>rfl
   | true=>have:=(HF.out rfl).2;rw [hg] at this;cases this
 rw [HG.out];go_wp2_with fail;go_ret;exact ⟨rfl,nB⟩
theorem oW (p:PtrM) (h:HartM) (w:World) (hi:HartIn w p h) (s0:0<=h.satp) (s1:h.satp<=18446744073709551615) (t0:0<=h.tvec) (h8:¬h.regs.length=8):
 Calls Tryz.prog 25 #[.agg (ah p h)] w fun e w'=>e=.returned (.bool (cJ h))∧Below w.heap.size w w':=by
 have F:=bL w (ah p h) 39;have A0:Hid ((ah p h)[0]?=some (.slice p.am h.mem.length p.cm)):=by show _=_;rfl
 have A1:Hid ((ah p h)[1]?=some (.slice p.ar h.regs.length p.cr)):=by show _=_;rfl
 have A3:Hid ((ah p h)[3]?=some (.int .i64 h.mode)):=by show _=_;rfl
 have A6:Hid ((ah p h)[6]?=some (.int .u64 h.satp)):=by show _=_;rfl
 have A7:Hid ((ah p h)[7]?=some (.int .u64 h.tvec)):=by show _=_;rfl
 have A9:Hid ((ah p h)[9]?=some (.int .i64 h.emode)):=by show _=_;rfl
 have A10:Hid ((ah p h)[10]?=some (.int .i64 h.cause)):=by show _=_;rfl
 have KP:Hid (((ah p h).toList.drop 12).take 9=(kA p h.k).toList):=by show _=_;rfl
 obtain ⟨R,hR⟩:∃R,cJ h=R:=⟨_,rfl⟩;have HF:Hid (R=true->fK h∧bf h.k=true):=fun hr=>by
  rw [<-hR,cJ,Bool.and_eq_true] at hr;exact ⟨(gz h).1 hr.1,hr.2⟩
 have HT:Hid (fK h->bf h.k=true->R=true):=fun h1 h2=>by
  rw [<-hR,cJ,Bool.and_eq_true];exact ⟨(gz h).2 h1,h2⟩
 unfold fK at HF HT;rw [hR];have S1:Hid (∀u,Calls Tryz.prog 47 #[.int .u64 h.satp] u fun e w'=>e=.returned (.bool (dE h.satp))∧Below u.heap.size u w'):=fun u=>jp h.satp u s0 s1;have S2:Hid (∀u,Below w.heap.size w u->Calls Tryz.prog 48 #[.agg (kA p h.k)] u fun e w'=>e=.returned (.bool (bf h.k))∧Below u.heap.size u w'):=fun u hu=>dB _ h.k u (hi.ks.keep hu);have g8:¬(h.regs.length:Int)=8:=by omega
 clear hi hR h8;generalize ah p h=A at *;generalize h.mem.length=n at *;generalize h.regs.length=m at *;generalize h.regs[0]?.getD 0=r0 at *;go_enter Tryz.func25,Tryz.ntmps25;go_upto_region 1 with fail;generalize (w.alloc (Obj.cells A 39))=u0 at F |-;obtain ⟨f1,hz,nB⟩:=F;have H1:Hid _:=f1;clear f1;have c0:=aa H1.out 0 A0.out;have c1:=aa H1.out 1 A1.out;have c3:=aa H1.out 3 A3.out;have c6:=aa H1.out 6 A6.out;have c7:=aa H1.out 7 A7.out;have c9:=aa H1.out 9 A9.out;have c10:=aa H1.out 10 A10.out;go_wp2_with fail
 any_goals (
  go_ret;refine ⟨?_,nB⟩;have hq:R=false:=(by
   cases R with
   | false=>rfl
   | true=>
    obtain ⟨⟨⟨q1,q2,q3⟩,q4,q5,⟨q6,q7⟩,⟨q8,q9⟩,q10,q11,⟨q12,q13⟩⟩,q14⟩:=HF.out rfl;first
    | (exfalso;omega)
    | (rw [hs] at q10;cases q10)
    | (rw [hs] at q14;cases q14))
  subst hq;exact rfl)
theorem it (p:PtrM) (h:HartM) (w:World) (hi:HartIn w p h) (s0:0<=h.satp) (s1:h.satp<=18446744073709551615) (t0:0<=h.tvec):
 Calls Tryz.prog 25 #[.agg (ah p h)] w fun e w'=>e=.returned (.bool (cJ h))∧Below w.heap.size w w':=by
 by_cases h8:h.regs.length=8
 ·exact oV p h w hi s0 s1 t0 h8
 ·exact oW p h w hi s0 s1 t0 h8
theorem kY (n:Nat) (w:World) (hl:n<=1048576):Calls Tryz.prog 92 #[.int .i64 n] w fun e w'=>e=.returned (.bool (dU n))∧w'=w:=by
 obtain ⟨R,hR⟩:∃R,dU n=R:=⟨_,rfl⟩;have HF:Hid (R=true↔((n:Int)%64=0∧64<=(n:Int)∧(n:Int)<=4096)):=by
  show _↔_;rw [<-hR,dU,decide_eq_true_eq];omega
 rw [hR];clear hR;go_enter Tryz.func92,Tryz.ntmps92;go_wp2_with fail;all_goals (
  go_ret;refine ⟨?_,rfl⟩;have q:=HF.out;cases R with
  | false=>simp at q |- <;> omega
  | true=>simp at q |- <;> omega)
end
section
attribute [local go_sem ↓] Go.wp_at_zero Go.wp_at_succ
def dN (b:Bool) (c t:Int) (p:PtrM) (h:HartM):Array Value:=#[.bool b,.int .i64 c,.int .u64 t,.slice p.am h.mem.length p.cm,.slice p.ar h.regs.length p.cr,.int .u64 h.pc,.int .i64 h.mode,.bool h.sum,.bool h.mxr,.int .u64 h.satp,.int .u64 h.tvec,.int .u64 h.epc,.int .i64 h.emode,.int .i64 h.cause,.int .u64 h.tval,.int .i64 h.k.i.sets,.int .i64 h.k.i.ways,.slice p.a1 h.k.i.es.length p.c1,.int .i64 h.k.d.sets,.int .i64 h.k.d.ways,.slice p.a2 h.k.d.es.length p.c2,.int .i64 h.k.p.sets,.int .i64 h.k.p.ways,.slice p.a3 h.k.p.es.length p.c3]
abbrev el:Array Value:=#[.bool false,.int .i64 0,.int .u64 0,.slice none 0 0,.slice none 0 0,.int .u64 0,.int .i64 0,.bool false,.bool false,.int .u64 0,.int .u64 0,.int .u64 0,.int .i64 0,.int .i64 0,.int .u64 0,.int .i64 0,.int .i64 0,.slice none 0 0,.int .i64 0,.int .i64 0,.slice none 0 0,.int .i64 0,.int .i64 0,.slice none 0 0]
theorem mr (b:Bool) (c t:Int) (p:PtrM) (h:HartM):(dN b c t p h).all (·.oneCell')=true:=by simp [dN,Value.oneCell']
theorem tX:el.all (·.oneCell')=true:=by simp [el,Value.oneCell']
theorem zh (p:PtrM) (al:Option Addr) (cl:Nat) (plain:Bool) (pick:Int) (r:RunM):((aF p al cl plain pick r).toList.drop 0).take 21=(ah p r.h).toList:=rfl
theorem rz:(Tryz.prog.info? 41).map (·.size)=some 24:=by kernel_rfl
theorem tY (p:PtrM) (h:HartM) (plain:Bool) (pick:Int) (w:World) (hi:HartIn w p h) (s0:0<=h.satp) (s1:h.satp<=18446744073709551615) (t0:0<=h.tvec) (hn:¬(cJ h=true∧0<=pick∧pick<=255)):
 Calls Tryz.prog 6 #[.agg (ah p h),.bool plain,.int .i64 pick] w fun e w'=>e=.returned (.agg el)∧Below w.heap.size w w':=by
 have CV:Hid (∀u,Below w.heap.size w u->Calls Tryz.prog 25 #[.agg (ah p h)] u fun e w'=>e=.returned (.bool (cJ h))∧Below u.heap.size u w'):=fun u hu=>it p h u (hi.keep hu) s0 s1 t0;have SA:(ah p h).size=21:=rfl;clear hi s0 s1 t0;obtain ⟨V,hV⟩:∃V,cJ h=V:=⟨_,rfl⟩;rw [hV] at CV hn;clear hV;generalize ah p h=A at *;go_enter Tryz.func6,Tryz.ntmps6;go_upto_region 1 with fail;have F:=eu w A el 39 41;generalize (w.alloc (Obj.cells A 39)).alloc (Obj.cells el 41)=u0 at F |-;obtain ⟨h3,h6,l1,nB⟩:=F;have H3:Hid _:=h3;have H6:Hid _:=h6;clear h3 h6;have J:Hid _:=aT (P:=Tryz.prog) (T:=39) H3.out Tryz.underlying39 rfl (by rw [SA];exact dP);go_wp2_with (first | ((with_reducible refine aI ?_ J.out ?_);(exact rfl)));refine (CV.out u0 nB).mono ?_;rintro e u1 ⟨rfl,k1⟩;replace nB:=bst nB k1;replace H6:=ab H6 k1;clear k1 J H3;have HS:Hid _:=bB (P:=Tryz.prog) (T:=41) (V:=el) H6.out rz rfl tX;have e1:=aX (V:=el) H6.out rfl;have e2:=aS (show w.heap.size<=w.heap.size+1 by omega) el.toList 0 _ nB;have FIN:Hid (∀{R:Ending->World->Prop} {a:Act},a.tmps[6]?=some (.pointer (some ⟨w.heap.size+1,0,none⟩))->a.defers=[]->R (.returned (.agg el)) (u1.setCells (w.heap.size+1) 0 el.toList)->bodyPost Tryz.prog Tryz.f6 R .ret a (u1.setCells (w.heap.size+1) 0 el.toList)):=fun h1 h2 h3=>dx (b:=w.heap.size+1) Tryz.results6 h1 (bx (P:=Tryz.prog) e1 Tryz.underlying41 rfl rz) h2 h3;cases V
 ·go_wp2_with (first | ((with_reducible refine aH ?_ ?_ HS.out ?_);(exact rfl);(exact rfl)));exact FIN.out rfl rfl ⟨rfl,e2⟩
 ·by_cases hp0:pick<0
  ·go_wp2_with (first | ((with_reducible refine aH ?_ ?_ HS.out ?_);(exact rfl);(exact rfl)));exact FIN.out rfl rfl ⟨rfl,e2⟩
  ·have hp1:255<pick:=by simp at hn;omega
   go_wp2_with (first | ((with_reducible refine aH ?_ ?_ HS.out ?_);(exact rfl);(exact rfl)));exact FIN.out rfl rfl ⟨rfl,e2⟩
theorem tZ (p:PtrM) (h:HartM) (plain:Bool) (pick:Int) (w:World) (hi:HartIn w p h) (hk:HOk h) (hp0:0<=pick) (hp1:pick<=255):
 Calls Tryz.prog 6 #[.agg (ah p h),.bool plain,.int .i64 pick] w fun e w'=>(∃q,e=.returned (.agg (dN true (ew plain pick h).cause (ew plain pick h).tval q (ew plain pick h).h))∧HartIn w' q (ew plain pick h).h∧∀x,some x∈aV q->w.heap.size<=x.block)∧Below w.heap.size w w':=by
 have CV:Hid (∀u,Below w.heap.size w u->Calls Tryz.prog 25 #[.agg (ah p h)] u fun e w'=>e=.returned (.bool true)∧Below u.heap.size u w'):=fun u hu=>by
  have:=it p h u (hi.keep hu) hk.satp.1 hk.satp.2 hk.tvec.1;rw [hk.valid] at this;exact this
 have CS:Hid (∀u,Below w.heap.size w u->Calls Tryz.prog 26 #[.agg (ah p h),.bool plain,.int .i64 pick] u (jJ u plain pick (ew plain pick h))):=fun u hu=>ww p h plain pick u (hi.keep hu) hk ⟨hp0,hp1⟩;have SA:(ah p h).size=21:=rfl;clear hi hk;generalize ew plain pick h=X at *;generalize ah p h=A at *;go_enter Tryz.func6,Tryz.ntmps6;go_upto_region 1 with fail;have F:=eu w A el 39 41;generalize (w.alloc (Obj.cells A 39)).alloc (Obj.cells el 41)=u0 at F |-;obtain ⟨h3,h6,l1,nB⟩:=F;have lz:w.heap.size+1<u0.heap.size:=by omega
 have H3:Hid _:=h3;have H6:Hid _:=h6;clear h3 h6 l1;have J:Hid _:=aT (P:=Tryz.prog) (T:=39) H3.out Tryz.underlying39 rfl (by rw [SA];exact dP);go_wp2_with (first | ((with_reducible refine aI ?_ J.out ?_);(exact rfl)));refine (CV.out u0 nB).mono ?_;rintro e u1 ⟨rfl,k1⟩;replace nB:=bst nB k1;replace H3:=ab H3 k1;replace H6:=ab H6 k1;replace lz:=Nat.lt_of_lt_of_le lz k1.size;clear k1 J;have J:Hid _:=aT (P:=Tryz.prog) (T:=39) H3.out Tryz.underlying39 rfl (by rw [SA];exact dP);go_wp2_with (first | ((with_reducible refine aI ?_ J.out ?_);(exact rfl)));refine (CS.out u1 nB).mono ?_;rintro e u2 ⟨⟨q,al,cl,rfl,hI,hq,_⟩,k2⟩;replace nB:=bst nB k2;replace H6:=ab H6 k2;have lz2:=Nat.lt_of_lt_of_le lz k2.size;have HI:Hid _:=hI.h;have HQ:Hid (∀x,some x∈aV q->w.heap.size+2<=x.block):=fun x hx=>by have:=hq x hx;omega
 clear k2 J H3 hI hq;have RA:(aF q al cl plain pick X).size=31:=rfl;have RO:=cZ q al cl plain pick X;have R23:Hid ((aF q al cl plain pick X)[23]?=some (.int .i64 X.cause)):=by show _=_;rfl
 have R24:Hid ((aF q al cl plain pick X)[24]?=some (.int .u64 X.tval)):=by show _=_;rfl
 have R0:Hid _:=zh q al cl plain pick X;generalize aF q al cl plain pick X=RR at *;have a7:=bL u2 dm 66;have HS7:Hid _:=bB (P:=Tryz.prog) (T:=66) (V:=RR) a7.1 (by rw [RA];exact cR) (by rw [RA,aR]) RO;have e7:Hid _:=aX (V:=RR) a7.1 (by rw [RA,aR]);have n7:=aS nle RR.toList 0 _ a7.2.2;have l7:((u2.alloc (Obj.cells dm 66)).setCells u2.heap.size 0 RR.toList).heap.size=u2.heap.size+1:=by rw [cN,a7.2.1]
 go_upto_region 4 with (first | ((with_reducible refine aH ?_ ?_ HS7.out ?_);(exact rfl);(exact rfl)));generalize (u2.alloc (Obj.cells dm 66)).setCells u2.heap.size 0 RR.toList=u3 at e7 n7 l7 |-;replace nB:=bst nB n7;replace H6:=ab H6 n7;replace HI:Hid _:=HI.out.keep n7;have lz3:w.heap.size+1<u3.heap.size:=by omega
 have c23:=aa e7.out 23 R23.out;have c24:=aa e7.out 24 R24.out;have J7:Hid _:=bY (P:=Tryz.prog) (T:=39) e7.out Tryz.underlying39 rfl (o:=0) (ah q X.h).toList dP R0.out rfl;rw [show (ah q X.h).toList.toArray=#[.slice q.am X.h.mem.length q.cm,.slice q.ar X.h.regs.length q.cr,.int .u64 X.h.pc,.int .i64 X.h.mode,.bool X.h.sum,.bool X.h.mxr,.int .u64 X.h.satp,.int .u64 X.h.tvec,.int .u64 X.h.epc,.int .i64 X.h.emode,.int .i64 X.h.cause,.int .u64 X.h.tval,.int .i64 X.h.k.i.sets,.int .i64 X.h.k.i.ways,.slice q.a1 X.h.k.i.es.length q.c1,.int .i64 X.h.k.d.sets,.int .i64 X.h.k.d.ways,.slice q.a2 X.h.k.d.es.length q.c2,.int .i64 X.h.k.p.sets,.int .i64 X.h.k.p.ways,.slice q.a3 X.h.k.p.es.length q.c3] from rfl] at J7;have HS:Hid _:=bB (P:=Tryz.prog) (T:=41) (V:=dN true X.cause X.tval q X.h) H6.out rz rfl (mr _ _ _ _ _);have e1:=aX (V:=dN true X.cause X.tval q X.h) H6.out rfl;have e2:=aS (show w.heap.size<=w.heap.size+1 by omega) (dN true X.cause X.tval q X.h).toList 0 _ nB;have gS:=aM (w.heap.size+1) (dN true X.cause X.tval q X.h).toList 0 u3 u3 (au u3 _);clear l7 n7 a7;go_wp2_with (first | ((with_reducible refine aI ?_ J7.out ?_);(exact rfl)) | ((with_reducible refine aH ?_ ?_ HS.out ?_);(exact rfl);(exact rfl)));refine dx (b:=w.heap.size+1) Tryz.results6 rfl (bx (P:=Tryz.prog) e1 Tryz.underlying41 rfl rz) rfl ?_;refine ⟨⟨q,rfl,HI.out.gb gS (fun x hx=>?_),fun x hx=>?_⟩,e2⟩
 ·have:=HQ.out x hx;omega
 ·have:=HQ.out x hx;omega
end
end Go.Proofs.YtgnnmgfgfihljaaGreat
