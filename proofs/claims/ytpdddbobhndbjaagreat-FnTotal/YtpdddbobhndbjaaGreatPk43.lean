import Derived.Test.YtpdddbobhndbjaaGreatPk40
import Derived.Test.YtpdddbobhndbjaaGreatPk28
namespace Go.Proofs.YtpdddbobhndbjaaGreat
open Go.RowKit
set_option linter.unusedVariables false
set_option maxHeartbeats 6400000
set_option maxRecDepth 20000
section
attribute [local go_sem ↓] Go.wp_at_zero Go.wp_at_succ
theorem Byt.gb0 {w w':World} {a:Option Addr} {len r:Nat} {zs:List Int} (h:Byt w a len zs) (hg:w.grownBy w' (some r)) (hne:0<len->∀q,a=some q->q.block≠r):Byt w' a len zs:=by
 rcases Nat.eq_zero_or_pos len with h0 | h0
 ·exact ⟨h.1,h.2.1,.inl h0⟩
 ·exact h.gb' hg (hne h0)
structure RdAt (w:World) (b:Nat) (a:Option Addr) (len cap:Nat) (zs:List Int) (p:Nat):Prop where
 box:w.heap[b]?=some (.cells #[.slice a len cap,.int .i64 ((min p len:Nat):Int)] 94 (0,0))
 byt:Byt w a len zs
 ne:0<len->∀q,a=some q->q.block≠b
 len:len<=1048576
theorem RdAt.lt {w:World} {b:Nat} {a:Option Addr} {len cap:Nat} {zs:List Int} {p:Nat} (h:RdAt w b a len cap zs p):b<w.heap.size:=(hpl h.box)
theorem RdAt.keep {w w':World} {b:Nat} {a:Option Addr} {len cap:Nat} {zs:List Int} {p:Nat} (h:RdAt w b a len cap zs p) (hn:Bw w w'):RdAt w' b a len cap zs p:=
 ⟨ae h.box hn h.lt,h.byt.keep hn,h.ne,h.len⟩
theorem RdAt.gb {w w':World} {b r:Nat} {a:Option Addr} {len cap:Nat} {zs:List Int} {p:Nat} (h:RdAt w b a len cap zs p) (hg:w.grownBy w' (some r)) (hb:b≠r) (ha:0<len->∀q,a=some q->q.block≠r):RdAt w' b a len cap zs p:=
 ⟨aC h.box hg hb,h.byt.gb0 hg ha,h.ne,h.len⟩
theorem RdAt.off {w:World} {b r:Nat} {a:Option Addr} {len cap:Nat} {zs:List Int} {p:Nat} (h:RdAt w b a len cap zs p) (hr:w.heap.size<=r):0<len->∀q,a=some q->q.block≠r:=by
 intro h0 q hq;rcases h.byt.2.2 with h1 | ⟨g,off,e,hlt,_⟩
 ·omega
 ·rw [e] at hq;cases hq;simp only;omega
theorem RdAt.step {w w':World} {b:Nat} {a:Option Addr} {len cap:Nat} {zs:List Int} {p p':Nat} (h:RdAt w b a len cap zs p) (hg:w.grownBy w' (some b)) (hb:w'.heap[b]?=some (.cells #[.slice a len cap,.int .i64 ((min p' len:Nat):Int)] 94 (0,0))):RdAt w' b a len cap zs p':=
 ⟨hb,h.byt.gb0 hg h.ne,h.ne,h.len⟩
theorem iw (b len cap p:Nat) (a:Option Addr) (zs:List Int) (w:World) (h:RdAt w b a len cap zs p):
 Calls Tryz.prog 38 #[.pointer (some ⟨b,0,none⟩)] w fun e w'=>e=.returned (.int .u8 (atM zs p))∧RdAt w' b a len cap zs (p+1)∧w.grownBy w' (some b):=by
 have HR:=hid h;have c0:=ab h.box 0 (show (#[Value.slice a len cap,.int .i64 ((min p len:Nat):Int)]:Array Value)[0]?=some (.slice a len cap) from rfl);have c1:=ab h.box 1 (show (#[Value.slice a len cap,.int .i64 ((min p len:Nat):Int)]:Array Value)[1]?=some (.int .i64 ((min p len:Nat):Int)) from rfl);have f1:=ay h.box 1;have hl:=h.len;by_cases hp:p<len
 ·have hm:min p len=p:=by omega
  rw [hm] at c1;rcases h.byt.2.2 with h3 | ⟨g,off,rfl,hgw,hc⟩
  ·omega
  have g1:=hc p hp;have g2:=h.byt.2.1 p;have hne:=h.ne (by omega) ⟨g,off,none⟩ rfl;have HZ:Hid (atM zs p=zs[p]?.getD 0):=rfl;rw [HZ.out];generalize zs[p]?.getD 0=z at g1 g2 |-;obtain ⟨g21,g22⟩:=g2;clear hc h hm HZ;go_enter Tryz.func38,Tryz.ntmps38;go_wp2_with fail;go_quiet (fail);rename Nat=>nq';go_wp2_with fail;go_quiet (fail);go_wp2_with fail;go_ret;have hg:=ak (qN (aq w (some b)) (nq'+nq)) 1 (.int .i64 ((p:Int)+1));refine ⟨rfl,HR.out.step hg ?_,hg⟩;have:=bt (w:=w.drewN (nq'+nq)) HR.out.box 1 (.int .i64 ((p:Int)+1));rw [show min (p+1) len=p+1 by omega];exact this
 ·have hm:min p len=len:=by omega
  have HZ:Hid (atM zs p=0):=by
   show zs[p]?.getD 0=0;rw [List.getElem?_eq_none (by rw [h.byt.1];omega)];rfl
  rw [HZ.out];rw [hm] at c1;clear HZ h hm;go_enter Tryz.func38,Tryz.ntmps38;go_wp2_with fail;go_quiet (fail);go_wp2_with fail;go_ret;have hg:=qN (aq w (some b)) nq;refine ⟨rfl,HR.out.step hg ?_,hg⟩;rw [show min (p+1) len=min p len by omega];exact HR.out.box
def kX (zs:List Int) (p k:Nat):Int:=num ((List.range k).map fun j=>atM zs (p+j))
theorem Cs {zs:List Int} (h:∀i:Nat,0<=zs[i]?.getD 0∧zs[i]?.getD 0<=255) (p k:Nat):0<=kX zs p k∧kX zs p k<256^k:=
 kK _ k (fun z hz=>by
  simp only [List.mem_map] at hz;obtain ⟨j,_,rfl⟩:=hz;exact h _) (by simp)
theorem pD (zs:List Int) (p k:Nat):kX zs p (k+1)=kX zs p k+256^k*atM zs (p+k):=by
 unfold kX;rw [ia,mE];simp [num]
theorem ie (b len cap p n:Nat) (a:Option Addr) (zs:List Int) (w:World) (h:RdAt w b a len cap zs p) (hn:n<=8):
 Calls Tryz.prog 40 #[.pointer (some ⟨b,0,none⟩),.int .i64 n] w fun e w'=>e=.returned (.int .u64 (kX zs p n))∧RdAt w' b a len cap zs (p+n)∧w.grownBy w' (some b):=by
 have HR:=hid h;have HBd:=hid h.byt.2.1;clear h;go_enter Tryz.func40,Tryz.ntmps40;go_wp2_with fail;go_loopw [5,8] (fun vv iv wr=>∃(k:Nat),k<=n∧vv=.int .u64 (kX zs p k)∧iv=.int .i64 k∧RdAt wr b a len cap zs (p+k)∧w.grownBy wr (some b)) (fun _ iv _=>n-(intOf iv).toNat)
 case atStart=>exact ⟨0,Nat.zero_le _,rfl,rfl,HR.out,aq _ _⟩
 case round=>
  obtain ⟨k,hk,rfl,rfl,hR,hG⟩:=hrel;have HRk:Hid _:=hR;have HGk:Hid _:=hG;clear hR hG;by_cases hkn:k<n
  ·have hb1:=Cs HBd.out p k;have hy:=HBd.out (p+k);have HS:Hid _:=pD zs p k;have HY:Hid (atM zs (p+k)=zs[p+k]?.getD 0):=rfl;rw [<-HY.out] at hy;obtain ⟨x,hx⟩:∃x,kX zs p k=x:=⟨_,rfl⟩;obtain ⟨y,hyy⟩:∃y,atM zs (p+k)=y:=⟨_,rfl⟩;have HYy:Hid _:=hyy;rw [hx,hyy] at HS;rw [hx] at hb1 |-;rw [hyy] at hy;obtain ⟨hb11,hb12⟩:=hb1;obtain ⟨hy1,hy2⟩:=hy;clear hx hyy;have hcs:k=0∨k=1∨k=2∨k=3∨k=4∨k=5∨k=6∨k=7:=by omega
   rcases hcs with rfl | rfl | rfl | rfl | rfl | rfl | rfl | rfl;all_goals
    go_wp2_with fail;refine (iw b len cap _ a zs wr HRk.out).mono ?_;rintro e v1 ⟨rfl,hR1,hG1⟩;have HG1:Hid _:=dJ HGk.out hG1;have HR1:Hid _:=hR1;rw [HYy.out];clear hR1 hG1;go_wp2_with fail
   ·refine ⟨⟨1,by omega,?_,rfl,HR1.out,HG1.out⟩,by simp [intOf];omega⟩;have e:=eR 0 1 x y rfl hb11 (by omega) hy1 (by omega) (by omega);rw [Int.mul_one] at e;rw [e,HS.out,show ((256:Int)^0)=1 from rfl,Int.one_mul]
   ·refine ⟨⟨2,by omega,?_,rfl,HR1.out,HG1.out⟩,by simp [intOf];omega⟩;rw [eR 8 256 x y rfl hb11 (by omega) hy1 (by omega) (by omega),HS.out,show ((256:Int)^1)=256 from rfl,Int.mul_comm 256 y]
   ·refine ⟨⟨3,by omega,?_,rfl,HR1.out,HG1.out⟩,by simp [intOf];omega⟩;rw [eR 16 65536 x y rfl hb11 (by omega) hy1 (by omega) (by omega),HS.out,show ((256:Int)^2)=65536 from rfl,Int.mul_comm 65536 y]
   ·refine ⟨⟨4,by omega,?_,rfl,HR1.out,HG1.out⟩,by simp [intOf];omega⟩;rw [eR 24 16777216 x y rfl hb11 (by omega) hy1 (by omega) (by omega),HS.out,show ((256:Int)^3)=16777216 from rfl,Int.mul_comm 16777216 y]
   ·refine ⟨⟨5,by omega,?_,rfl,HR1.out,HG1.out⟩,by simp [intOf];omega⟩;rw [eR 32 4294967296 x y rfl hb11 (by omega) hy1 (by omega) (by omega),HS.out,show ((256:Int)^4)=4294967296 from rfl,Int.mul_comm 4294967296 y]
   ·refine ⟨⟨6,by omega,?_,rfl,HR1.out,HG1.out⟩,by simp [intOf];omega⟩;rw [eR 40 1099511627776 x y rfl hb11 (by omega) hy1 (by omega) (by omega),HS.out,show ((256:Int)^5)=1099511627776 from rfl,Int.mul_comm 1099511627776 y]
   ·refine ⟨⟨7,by omega,?_,rfl,HR1.out,HG1.out⟩,by simp [intOf];omega⟩;rw [eR 48 281474976710656 x y rfl hb11 (by omega) hy1 (by omega) (by omega),HS.out,show ((256:Int)^6)=281474976710656 from rfl,Int.mul_comm 281474976710656 y]
   ·refine ⟨⟨8,by omega,?_,rfl,HR1.out,HG1.out⟩,by simp [intOf];omega⟩;rw [eR 56 72057594037927936 x y rfl hb11 (by omega) hy1 (by omega) (by omega),HS.out,show ((256:Int)^7)=72057594037927936 from rfl,Int.mul_comm 72057594037927936 y]
  ·have hkn':k=n:=by omega
   subst hkn';go_wp2_with fail;go_ret;exact ⟨rfl,HRk.out,HGk.out⟩
end
section
attribute [local go_sem ↓] Go.wp_at_zero Go.wp_at_succ
theorem jY (b len cap p:Nat) (a:Option Addr) (zs:List Int) (w:World) (h:RdAt w b a len cap zs p):
 Calls Tryz.prog 37 #[.pointer (some ⟨b,0,none⟩)] w fun e w'=>(∃x,e=.returned x∧TlbOwn w.heap.size w' x (ag (atM zs p)))∧RdAt w' b a len cap zs (p+1)∧w.grownBy w' (some b):=by
 have hb:=h.byt.2.1 p;have HR:Hid _:=h;have hbl:=h.lt;obtain ⟨y,hy⟩:∃y,atM zs p=y:=⟨_,rfl⟩;have HY:Hid _:=hy;rw [show zs[p]?.getD 0=y from hy] at hb;rw [hy];clear hy h;obtain ⟨hy1,hy2⟩:=hb;obtain ⟨m,hm1,hm2,hm3⟩:∃m:Nat,1+y/4%4=m∧1<=m∧m<=4:=⟨(1+y/4%4).toNat,by omega,by omega,by omega⟩;have a0:=bS w #[.int .i64 0,.int .i64 0,.slice none 0 0] 37;have HA0:Hid _:=a0.1;have n0:=a0.2.2;have l0:=a0.2.1;clear a0;have hcs:y%4=0∨y%4=1∨y%4=2∨y%4=3:=by omega
 go_enter Tryz.func37,Tryz.ntmps37;go_upto_region 1 with fail;generalize w.alloc (Obj.cells #[.int .i64 0,.int .i64 0,.slice none 0 0] 37)=v0 at HA0 n0 l0 |-;go_wp2_with fail;refine (iw b len cap p a zs v0 (HR.out.keep n0)).mono ?_;rintro e v1 ⟨rfl,hR1,hG1⟩;rw [HY.out];have HR1:Hid _:=hR1;have HG1:Hid _:=hG1;have HA1:Hid _:=aC HA0.out hG1 (show w.heap.size≠b by omega);have hs1:=hG1.size;clear hR1 hG1 HA0;go_upto_region 2 with fail;have HE:Hid (∀s:Nat,(2:Int)^(y%4).toNat=s->ag y=⟨s,m,List.replicate (s*m) cK⟩):=by
  intro s hs;unfold ag;rw [hs,hm1];have:(2:Nat)^(y%4).toNat=s:=by
   have h2:((2:Int)^(y%4).toNat)=(((2:Nat)^(y%4).toNat:Nat):Int):=by simp
   omega
  rw [this];rfl
 rcases hcs with hc | hc | hc | hc
 ·have HEs:=hid (HE.out 1 (by rw [hc];rfl));rw [Nat.one_mul] at HEs;have hnb:m<=32:=by omega
  obtain ⟨cs,hcs,hmk⟩:=yz m (by omega);have n2:=(Below.refl v1.heap.size v1).alloc nle (Obj.cells cs 121);have HA2:=ae HA1.out n2 (by omega);have HS2:Hid _:=bh (P:=Tryz.prog) (T:=37) (V:=#[.int .i64 1,.int .i64 m,.slice (some ⟨v1.heap.size,0,none⟩) m m]) HA2 (by kernel_rfl) rfl (by simp [Value.oneCell']);have HB2:Hid _:=aT (V:=#[.int .i64 1,.int .i64 m,.slice (some ⟨v1.heap.size,0,none⟩) m m]) HA2 rfl;have hcl:cs.toList.length=m*6:=by rw [hcs,fo,List.length_replicate]
  have O2:Hid (OwnC 121 6 (v1.alloc (Obj.cells cs 121)) v1.heap.size v1.heap.size m m (aR (List.replicate m cK))):=by
   have:=OwnC.new 121 6 v1 cs.toList m hcl (by unfold maxLen;omega);rw [Array.toArray_toList,hcs] at this;exact this
  have g2:=aJ w.heap.size (#[.int .i64 1,.int .i64 m,.slice (some ⟨v1.heap.size,0,none⟩) m m]:Array Value).toList 0 _ _ (aq (v1.alloc (Obj.cells cs 121)) _);have HO3:Hid _:=OwnC.gb O2.out g2 (by omega);have HR3:Hid _:=(HR1.out.keep n2).gb g2 (show b≠w.heap.size by omega) (HR.out.off nle);have HGw:Hid (w.grownBy ((v1.alloc (Obj.cells cs 121)).setCells w.heap.size 0 (#[.int .i64 1,.int .i64 m,.slice (some ⟨v1.heap.size,0,none⟩) m m]:Array Value).toList) (some b)):=by
   have hG:=HG1.out;exact ⟨g2.os.trans (n2.os.trans (hG.os.trans n0.os)),g2.tape.trans (n2.tape.trans (hG.tape.trans n0.tape)),g2.output.trans (n2.output.trans (hG.output.trans n0.output)),by have:=g2.size;have:=n2.size;omega,fun k hk hne=>(g2.block k (by have:=n2.size;omega) (by simp;omega)).trans ((n2.block k (by omega)).trans ((hG.block k (by omega) hne).trans (n0.block k hk)))⟩
  clear HA2 hcl hcs;go_wp2_with ((with_reducible refine aG ?_ ?_ HS2.out ?_);(exact rfl);(exact rfl));have e1:=HB2.out;refine dz (b:=w.heap.size) Tryz.results37 rfl (bu (P:=Tryz.prog) e1 Tryz.underlying37 rfl (by kernel_rfl)) rfl ?_;refine ⟨⟨_,rfl,?_⟩,HR3.out,HGw.out⟩;rw [HEs.out];refine ⟨v1.heap.size,m,by simp,?_⟩;simp only [List.length_replicate];exact aP HO3.out (by omega)
 ·have HEs:=hid (HE.out 2 (by rw [hc];rfl));obtain ⟨n,hn,hnm⟩:∃n:Nat,2*m=n∧(2:Int)*(m:Int)=(n:Int):=⟨2*m,rfl,by omega⟩;have hnb:n<=32:=by omega
  rw [hn] at HEs;clear hn;obtain ⟨cs,hcs,hmk⟩:=yz n (by omega);have n2:=(Below.refl v1.heap.size v1).alloc nle (Obj.cells cs 121);have HA2:=ae HA1.out n2 (by omega);have HS2:Hid _:=bh (P:=Tryz.prog) (T:=37) (V:=#[.int .i64 2,.int .i64 m,.slice (some ⟨v1.heap.size,0,none⟩) n n]) HA2 (by kernel_rfl) rfl (by simp [Value.oneCell']);have HB2:Hid _:=aT (V:=#[.int .i64 2,.int .i64 m,.slice (some ⟨v1.heap.size,0,none⟩) n n]) HA2 rfl;have hcl:cs.toList.length=n*6:=by rw [hcs,fo,List.length_replicate]
  have O2:Hid (OwnC 121 6 (v1.alloc (Obj.cells cs 121)) v1.heap.size v1.heap.size n n (aR (List.replicate n cK))):=by
   have:=OwnC.new 121 6 v1 cs.toList n hcl (by unfold maxLen;omega);rw [Array.toArray_toList,hcs] at this;exact this
  have g2:=aJ w.heap.size (#[.int .i64 2,.int .i64 m,.slice (some ⟨v1.heap.size,0,none⟩) n n]:Array Value).toList 0 _ _ (aq (v1.alloc (Obj.cells cs 121)) _);have HO3:Hid _:=OwnC.gb O2.out g2 (by omega);have HR3:Hid _:=(HR1.out.keep n2).gb g2 (show b≠w.heap.size by omega) (HR.out.off nle);have HGw:Hid (w.grownBy ((v1.alloc (Obj.cells cs 121)).setCells w.heap.size 0 (#[.int .i64 2,.int .i64 m,.slice (some ⟨v1.heap.size,0,none⟩) n n]:Array Value).toList) (some b)):=by
   have hG:=HG1.out;exact ⟨g2.os.trans (n2.os.trans (hG.os.trans n0.os)),g2.tape.trans (n2.tape.trans (hG.tape.trans n0.tape)),g2.output.trans (n2.output.trans (hG.output.trans n0.output)),by have:=g2.size;have:=n2.size;omega,fun k hk hne=>(g2.block k (by have:=n2.size;omega) (by simp;omega)).trans ((n2.block k (by omega)).trans ((hG.block k (by omega) hne).trans (n0.block k hk)))⟩
  clear HA2 hcl hcs;go_wp2_with ((with_reducible refine aG ?_ ?_ HS2.out ?_);(exact rfl);(exact rfl));have e1:=HB2.out;refine dz (b:=w.heap.size) Tryz.results37 rfl (bu (P:=Tryz.prog) e1 Tryz.underlying37 rfl (by kernel_rfl)) rfl ?_;refine ⟨⟨_,rfl,?_⟩,HR3.out,HGw.out⟩;rw [HEs.out];refine ⟨v1.heap.size,n,by simp,?_⟩;simp only [List.length_replicate];exact aP HO3.out (by omega)
 ·have HEs:=hid (HE.out 4 (by rw [hc];rfl));obtain ⟨n,hn,hnm⟩:∃n:Nat,4*m=n∧(4:Int)*(m:Int)=(n:Int):=⟨4*m,rfl,by omega⟩;have hnb:n<=32:=by omega
  rw [hn] at HEs;clear hn;obtain ⟨cs,hcs,hmk⟩:=yz n (by omega);have n2:=(Below.refl v1.heap.size v1).alloc nle (Obj.cells cs 121);have HA2:=ae HA1.out n2 (by omega);have HS2:Hid _:=bh (P:=Tryz.prog) (T:=37) (V:=#[.int .i64 4,.int .i64 m,.slice (some ⟨v1.heap.size,0,none⟩) n n]) HA2 (by kernel_rfl) rfl (by simp [Value.oneCell']);have HB2:Hid _:=aT (V:=#[.int .i64 4,.int .i64 m,.slice (some ⟨v1.heap.size,0,none⟩) n n]) HA2 rfl;have hcl:cs.toList.length=n*6:=by rw [hcs,fo,List.length_replicate]
  have O2:Hid (OwnC 121 6 (v1.alloc (Obj.cells cs 121)) v1.heap.size v1.heap.size n n (aR (List.replicate n cK))):=by
   have:=OwnC.new 121 6 v1 cs.toList n hcl (by unfold maxLen;omega);rw [Array.toArray_toList,hcs] at this;exact this
  have g2:=aJ w.heap.size (#[.int .i64 4,.int .i64 m,.slice (some ⟨v1.heap.size,0,none⟩) n n]:Array Value).toList 0 _ _ (aq (v1.alloc (Obj.cells cs 121)) _);have HO3:Hid _:=OwnC.gb O2.out g2 (by omega);have HR3:Hid _:=(HR1.out.keep n2).gb g2 (show b≠w.heap.size by omega) (HR.out.off nle);have HGw:Hid (w.grownBy ((v1.alloc (Obj.cells cs 121)).setCells w.heap.size 0 (#[.int .i64 4,.int .i64 m,.slice (some ⟨v1.heap.size,0,none⟩) n n]:Array Value).toList) (some b)):=by
   have hG:=HG1.out;exact ⟨g2.os.trans (n2.os.trans (hG.os.trans n0.os)),g2.tape.trans (n2.tape.trans (hG.tape.trans n0.tape)),g2.output.trans (n2.output.trans (hG.output.trans n0.output)),by have:=g2.size;have:=n2.size;omega,fun k hk hne=>(g2.block k (by have:=n2.size;omega) (by simp;omega)).trans ((n2.block k (by omega)).trans ((hG.block k (by omega) hne).trans (n0.block k hk)))⟩
  clear HA2 hcl hcs;go_wp2_with ((with_reducible refine aG ?_ ?_ HS2.out ?_);(exact rfl);(exact rfl));have e1:=HB2.out;refine dz (b:=w.heap.size) Tryz.results37 rfl (bu (P:=Tryz.prog) e1 Tryz.underlying37 rfl (by kernel_rfl)) rfl ?_;refine ⟨⟨_,rfl,?_⟩,HR3.out,HGw.out⟩;rw [HEs.out];refine ⟨v1.heap.size,n,by simp,?_⟩;simp only [List.length_replicate];exact aP HO3.out (by omega)
 ·have HEs:=hid (HE.out 8 (by rw [hc];rfl));obtain ⟨n,hn,hnm⟩:∃n:Nat,8*m=n∧(8:Int)*(m:Int)=(n:Int):=⟨8*m,rfl,by omega⟩;have hnb:n<=32:=by omega
  rw [hn] at HEs;clear hn;obtain ⟨cs,hcs,hmk⟩:=yz n (by omega);have n2:=(Below.refl v1.heap.size v1).alloc nle (Obj.cells cs 121);have HA2:=ae HA1.out n2 (by omega);have HS2:Hid _:=bh (P:=Tryz.prog) (T:=37) (V:=#[.int .i64 8,.int .i64 m,.slice (some ⟨v1.heap.size,0,none⟩) n n]) HA2 (by kernel_rfl) rfl (by simp [Value.oneCell']);have HB2:Hid _:=aT (V:=#[.int .i64 8,.int .i64 m,.slice (some ⟨v1.heap.size,0,none⟩) n n]) HA2 rfl;have hcl:cs.toList.length=n*6:=by rw [hcs,fo,List.length_replicate]
  have O2:Hid (OwnC 121 6 (v1.alloc (Obj.cells cs 121)) v1.heap.size v1.heap.size n n (aR (List.replicate n cK))):=by
   have:=OwnC.new 121 6 v1 cs.toList n hcl (by unfold maxLen;omega);rw [Array.toArray_toList,hcs] at this;exact this
  have g2:=aJ w.heap.size (#[.int .i64 8,.int .i64 m,.slice (some ⟨v1.heap.size,0,none⟩) n n]:Array Value).toList 0 _ _ (aq (v1.alloc (Obj.cells cs 121)) _);have HO3:Hid _:=OwnC.gb O2.out g2 (by omega);have HR3:Hid _:=(HR1.out.keep n2).gb g2 (show b≠w.heap.size by omega) (HR.out.off nle);have HGw:Hid (w.grownBy ((v1.alloc (Obj.cells cs 121)).setCells w.heap.size 0 (#[.int .i64 8,.int .i64 m,.slice (some ⟨v1.heap.size,0,none⟩) n n]:Array Value).toList) (some b)):=by
   have hG:=HG1.out;exact ⟨g2.os.trans (n2.os.trans (hG.os.trans n0.os)),g2.tape.trans (n2.tape.trans (hG.tape.trans n0.tape)),g2.output.trans (n2.output.trans (hG.output.trans n0.output)),by have:=g2.size;have:=n2.size;omega,fun k hk hne=>(g2.block k (by have:=n2.size;omega) (by simp;omega)).trans ((n2.block k (by omega)).trans ((hG.block k (by omega) hne).trans (n0.block k hk)))⟩
  clear HA2 hcl hcs;go_wp2_with ((with_reducible refine aG ?_ ?_ HS2.out ?_);(exact rfl);(exact rfl));have e1:=HB2.out;refine dz (b:=w.heap.size) Tryz.results37 rfl (bu (P:=Tryz.prog) e1 Tryz.underlying37 rfl (by kernel_rfl)) rfl ?_;refine ⟨⟨_,rfl,?_⟩,HR3.out,HGw.out⟩;rw [HEs.out];refine ⟨v1.heap.size,n,by simp,?_⟩;simp only [List.length_replicate];exact aP HO3.out (by omega)
theorem iL (m:Int) (w:World):Calls Tryz.prog 66 #[.int .i64 m] w fun e w'=>e=.returned (.bool (decide (0<=m∧m<=2)))∧w'=w:=by
 by_cases h1:0<=m
 ·by_cases h2:m<=2
  ·go_enter Tryz.func66,Tryz.ntmps66;go_wp2_with fail;go_ret;exact ⟨aE (by simp [h1,h2]),rfl⟩
  ·go_enter Tryz.func66,Tryz.ntmps66;go_wp2_with fail;go_ret;exact ⟨aE (by simp [h2]),rfl⟩
 ·go_enter Tryz.func66,Tryz.ntmps66;go_wp2_with fail;go_ret;exact ⟨aE (by simp;omega),rfl⟩
theorem gF (x:Int) (w:World) (h0:0<=x) (h1:x<=18446744073709551615):Calls Tryz.prog 67 #[.int .u64 x] w fun e w'=>e=.returned (.bool (de x))∧w'=w:=by
 have HS:Hid (de x=(x/1152921504606846976 == 0 || x/1152921504606846976 == 8)):=by
  show _=_;unfold de;rw [show x/1152921504606846976%16=x/1152921504606846976 by omega]
 have hq:0<=x/1152921504606846976∧x/1152921504606846976<=15:=by omega
 rw [HS.out];clear HS;by_cases hz:x/1152921504606846976=0
 ·go_enter Tryz.func67,Tryz.ntmps67;go_wp2_with fail;go_ret;exact ⟨aE (by simp [hz]),rfl⟩
 ·have hz':(x/1152921504606846976 == 0)=false:=by simpa using hz
  go_enter Tryz.func67,Tryz.ntmps67;go_wp2_with fail;go_ret;exact ⟨aE (by simp [hz]),rfl⟩
theorem AF (b len cap p:Nat) (a:Option Addr) (zs:List Int) (w:World) (h:RdAt w b a len cap zs p):
 Calls Tryz.prog 41 #[.pointer (some ⟨b,0,none⟩)] w fun e w'=>e=.returned (.int .u64 (if de (cw zs p)=true then cw zs p else 0))∧RdAt w' b a len cap zs (p+8)∧w.grownBy w' (some b):=by
 have hbd:=lC h.byt.2.1 p;have HR:Hid _:=h;clear h;obtain ⟨x,hx⟩:∃x,cw zs p=x:=⟨_,rfl⟩;have HX:Hid (kX zs p 8=x):=hx;rw [hx] at hbd |-;obtain ⟨sc,hsc⟩:∃sc,de x=sc:=⟨_,rfl⟩;have HSc:Hid _:=hsc;rw [hsc];clear hx hsc;go_enter Tryz.func41,Tryz.ntmps41;go_wp2_with fail;refine (ie b len cap p 8 a zs w HR.out (by omega)).mono ?_;rintro e v1 ⟨rfl,hR1,hG1⟩;rw [HX.out];have HR1:Hid _:=hR1;have HG1:Hid _:=hG1;clear hR1 hG1;go_wp2_with fail;refine (gF x v1 hbd.1 hbd.2).mono ?_;rintro e v2 ⟨rfl,hv⟩;rw [hv,HSc.out];clear hv v2;cases sc
 ·go_wp2_with fail;go_ret;exact ⟨rfl,HR1.out,HG1.out⟩
 ·go_wp2_with fail;go_ret;exact ⟨rfl,HR1.out,HG1.out⟩
theorem yw {v v1:World} {r:Option Nat} (h:Bw v v1):v.grownBy v1 r:=⟨h.os,h.tape,h.output,h.size,fun k hk _=>h.block k hk⟩
def rgl (zs:List Int) (p t:Nat):List Int:=(0::(List.range t).map fun j=>cw zs (p+8*j))++List.replicate (7-t) 0
theorem Cl (zs:List Int) (p t:Nat):(rgl zs p t).length=t+1+(7-t):=by
 simp [rgl];omega
theorem AG (zs:List Int) (p t:Nat) (h:t<7):(rgl zs p t)[t+1]?.getD 0=0:=by
 unfold rgl;rw [List.getElem?_append_right (by simp)];simp;cases h7:7-t with
 | zero=>omega
 | succ n=>simp
theorem Cm (zs:List Int) (p t:Nat) (h:t<7):(rgl zs p t).set (t+1) (cw zs (p+8*t))=rgl zs p (t+1):=by
 unfold rgl;rw [List.set_append_right _ _ (by simp),ia];obtain ⟨m,hm⟩:∃m,7-t=m+1:=⟨6-t,by omega⟩;rw [hm,show 7-(t+1)=m by omega,List.replicate_succ];simp
theorem Dz:∀u:World,(Instr.makeSlice 24 (.int .i64 8) (.int .i64 8)).run Tryz.prog u=.ok (.slice (some ⟨u.heap.size,0,none⟩) 8 8) (u.alloc (.cells (cU (List.replicate 8 0)).toArray 25)):=by
 intro u
 kernel_rfl
theorem AI (b len cap p:Nat) (a:Option Addr) (zs:List Int) (w:World) (h:RdAt w b a len cap zs p):
 Calls Tryz.prog 42 #[.pointer (some ⟨b,0,none⟩)] w fun e w'=>(∃g,e=.returned (.slice (some ⟨g,0,none⟩) 8 8)∧OwnC 25 1 w' w.heap.size g 8 8 (cU (0::(List.range 7).map fun j=>cw zs (p+8*j))))∧RdAt w' b a len cap zs (p+56)∧w.grownBy w' (some b):=by
 have HR:Hid _:=h;have hbl:=h.lt;clear h;have hmk:=Dz;have n0:=(Below.refl w.heap.size w).alloc nle (Obj.cells (cU (List.replicate 8 0)).toArray 25);have O0:=hid (OwnC.new 25 1 w (cU (List.replicate 8 0)) 8 rfl (by decide));have HR0:Hid _:=HR.out.keep n0;have G0:Hid _:=yw (r:=some b) n0;clear n0;go_enter Tryz.func42,Tryz.ntmps42;go_wp2_with fail;go_loopw [4] (fun iv wr=>∃(t:Nat),t<=7∧iv=.int .i64 ((t+1:Nat):Int)∧RdAt wr b a len cap zs (p+8*t)∧OwnC 25 1 wr w.heap.size w.heap.size 8 8 (cU (rgl zs p t))∧w.grownBy wr (some b)) (fun iv _=>9-(intOf iv).toNat)
 case atStart=>exact ⟨0,Nat.zero_le _,rfl,HR0.out,O0.out,G0.out⟩
 case round=>
  clear O0 HR0 G0;obtain ⟨t,ht,rfl,hR,hO,hG⟩:=hrel;have HRt:Hid _:=hR;have HOt:Hid _:=hO;have HGt:Hid _:=hG;clear hR hO hG;by_cases ht7:t<7
  ·obtain ⟨L,hL⟩:∃L,cw zs (p+8*t)=L:=⟨_,rfl⟩;have HL:Hid (kX zs (p+8*t) 8=L):=hL;have HL2:Hid _:=hL;clear hL;go_wp2_with fail;refine (ie b len cap (p+8*t) 8 a zs wr HRt.out (by omega)).mono ?_;rintro e v1 ⟨rfl,hR1,hG1⟩;rw [HL.out];have O1:=OwnC.gb HOt.out hG1 (show w.heap.size≠b by omega);have c1:=aB O1 (t+1) (.int .u64 0) (by rw [rq _ _ (by rw [Cl];omega),AG zs p t (by omega)]);have f1:=aO O1 (t+1);have hsz:=(OwnC.facts O1).2.2.1;have O2:Hid (OwnC 25 1 (v1.setCell ⟨w.heap.size,t+1,none⟩ (.int .u64 L)) w.heap.size w.heap.size 8 8 (cU (rgl zs p (t+1)))):=by
    have:=aF O1 (t+1) (.int .u64 L);rw [tx,<-HL2.out,Cm zs p t ht7,HL2.out] at this;exact this
   have g2:=ak (aq v1 (some w.heap.size)) (t+1) (.int .u64 L);have HR2:Hid _:=hR1.gb g2 (show b≠w.heap.size by omega) (HR.out.off nle);have HG2:Hid (w.grownBy (v1.setCell ⟨w.heap.size,t+1,none⟩ (.int .u64 L)) (some b)):=by
    have h0:=dJ HGt.out hG1;exact ⟨g2.os.trans h0.os,g2.tape.trans h0.tape,g2.output.trans h0.output,Nat.le_trans h0.size g2.size,fun k hk hne=>(g2.block k (Nat.lt_of_lt_of_le hk h0.size) (by simp;omega)).trans (h0.block k hk hne)⟩
   clear O1 g2 hR1 hG1;go_wp2_with fail;refine ⟨⟨t+1,by omega,by go_num,HR2.out,O2.out,HG2.out⟩,?_⟩;simp [intOf];omega
  ·have ht':t=7:=by omega
   subst ht';go_wp2_with fail;go_ret;exact ⟨⟨_,rfl,HOt.out⟩,HRt.out,HGt.out⟩
end
def rO (x:Int):Array Value:=#[.int .u64 x,.int .u64 (x%256),.int .u64 (x/256%256%8),.int .u64 (x/256%256/8%8),.int .u64 (x/65536%256%8),.int .u64 (gV (x/16777216)%18446744073709551616)]
theorem zE (x:Int) (w:World) (h0:0<=x) (h1:x<4294967296):
 Calls Tryz.prog 83 #[.int .u64 x] w fun e w'=>e=.returned (.agg (rO x))∧Bw w w':=by
 obtain ⟨v1,Ev1,F⟩:=ax1 w #[.int .u64 0,.int .u64 0,.int .u64 0,.int .u64 0,.int .u64 0,.int .u64 0] 116;have e1:x/16777216%256=x/16777216:=by omega
 have e2:IntKind.i8.wrap (x/16777216)=gV (x/16777216):=by
  unfold gV;simp [IntKind.wrap,IntKind.signed,IntKind.bits];split <;> omega
 have hi: -128<=gV (x/16777216)∧gV (x/16777216)<=127:=by unfold gV;split <;> omega
 have e3:IntKind.i64.wrap (gV (x/16777216))=gV (x/16777216):=(IntKind.wrap_i64 _).trans (by omega);have e4:IntKind.u64.wrap (gV (x/16777216))=gV (x/16777216)%18446744073709551616:=IntKind.wrap_u64 _;unfold rO;generalize gV (x/16777216)=im at *;go_enter Tryz.func83,Tryz.ntmps83;go_upto_region 1 with fail;rw [Ev1.out];clear Ev1;obtain ⟨f1,f2,n1⟩:=F;have k0:=ab f1 0 (v:=.int .u64 0) rfl;have k1:=ab f1 1 (v:=.int .u64 0) rfl;have k2:=ab f1 2 (v:=.int .u64 0) rfl;have k3:=ab f1 3 (v:=.int .u64 0) rfl;have k4:=ab f1 4 (v:=.int .u64 0) rfl;have k5:=ab f1 5 (v:=.int .u64 0) rfl;have ff:=ay f1;have ff0:=ff 0;have ff1:=ff 1;have ff2:=ff 2;have ff3:=ff 3;have ff4:=ff 4;have ff5:=ff 5;have hl:w.heap.size<v1.heap.size:=by omega
 clear f1 f2 ff;go_wp2_with fail;refine bodyPost_ret (v:=.agg #[.int .u64 x,.int .u64 (x%256),.int .u64 (x/256%256%8),.int .u64 (x/256%256/8%8),.int .u64 (x/65536%256%8),.int .u64 (im%18446744073709551616)]) (by simp [results,Tryz.results83,go_sem,k0,k1,k2,k3,k4,k5]) rfl ⟨rfl,?_⟩;repeat (refine bN ?_ nle _ _)
 exact n1
def gI (op c mode:Int):Bool:=decide (1<=op∧op<=14) && !bU op c mode
theorem Cp (x a b im op c mode:Int) (w:World) (h0:0<=op) (hc0:0<=c) (hc1:c<=7):
 Calls Tryz.prog 74 #[.agg #[.int .u64 x,.int .u64 op,.int .u64 a,.int .u64 b,.int .u64 c,.int .u64 im],.int .i64 mode] w fun e w'=>e=.returned (.bool (gI op c mode))∧Bw w w':=by
 have F:=bS w #[.int .u64 x,.int .u64 op,.int .u64 a,.int .u64 b,.int .u64 c,.int .u64 im] 116;obtain ⟨R,hR⟩:∃R,gI op c mode=R:=⟨_,rfl⟩;have HR:=hid hR;have HKm:=hid fun m u=>iL m u;rw [hR];clear hR;have hw:IntKind.i64.wrap c=c:=(IntKind.wrap_i64 _).trans (by omega);by_cases hop:op<=14∧1<=op
 ·rcases (show op=1∨op=2∨op=3∨op=4∨op=5∨op=6∨op=7∨op=8∨op=9∨op=10∨op=11∨op=12∨op=13∨op=14 by omega) with rfl | rfl | rfl | rfl | rfl | rfl | rfl | rfl | rfl | rfl | rfl | rfl | rfl | rfl
  case inr.inr.inr.inr.inr.inr.inr.inr.inr.inr.inr.inr.inl=>
   by_cases hm:mode=2
   ·subst hm;go_enter Tryz.func74,Tryz.ntmps74;go_upto_region 1 with fail;generalize w.alloc (Obj.cells #[.int .u64 x,.int .u64 13,.int .u64 a,.int .u64 b,.int .u64 c,.int .u64 im] 116)=v1 at F |-;obtain ⟨f1,f2,n1⟩:=F;have k1:=ab f1 1 (v:=.int .u64 13) rfl;have k4:=ab f1 4 (v:=.int .u64 c) rfl;clear f1 f2;go_wp2_with fail;refine (HKm.out c v1).mono ?_;rintro e u ⟨rfl,hu⟩;rw [hu];clear hu u;go_wp2_with fail;go_ret;refine ⟨?_,n1⟩;rw [<-HR.out];simp [gI,bU];by_cases hc:c<=2
    ·rw [decide_eq_true hc,decide_eq_false (by omega)];rfl
    ·rw [decide_eq_false hc,decide_eq_true (by omega)];rfl
   ·have hm':=decide_eq_false hm;go_enter Tryz.func74,Tryz.ntmps74;go_upto_region 1 with fail;generalize w.alloc (Obj.cells #[.int .u64 x,.int .u64 13,.int .u64 a,.int .u64 b,.int .u64 c,.int .u64 im] 116)=v1 at F |-;obtain ⟨f1,f2,n1⟩:=F;have k1:=ab f1 1 (v:=.int .u64 13) rfl;have k4:=ab f1 4 (v:=.int .u64 c) rfl;clear f1 f2;go_wp2_with fail;go_ret;refine ⟨?_,n1⟩;rw [<-HR.out];simp [gI,bU,hm]
  all_goals
   go_enter Tryz.func74,Tryz.ntmps74;go_upto_region 1 with fail;have k1:=ab F.1 1 (v:=.int .u64 _) rfl;have n1:=F.2.2;clear F;go_wp2_with fail;go_ret;refine ⟨?_,n1⟩;rw [<-HR.out];first
    | (simp [gI,bU];done)
    | (simp [gI,bU];omega)
    | (by_cases hm:mode=0 <;> simp [gI,bU,hm];done)
    | (by_cases hm:mode=2 <;> simp [gI,bU,hm];done)
 ·have hr:R=false:=by
   rw [<-HR.out];simp [gI];omega
  subst hr;obtain ⟨z1,z2,z3,z4,z5,z6,z7,z8,z9,z10,z11,z12,z13,z14⟩:op≠1∧op≠2∧op≠3∧op≠4∧op≠5∧op≠6∧op≠7∧op≠8∧op≠9∧op≠10∧op≠11∧op≠12∧op≠13∧op≠14:=by omega
  go_enter Tryz.func74,Tryz.ntmps74;go_upto_region 1 with fail;have k1:=ab F.1 1 (v:=.int .u64 op) rfl;have n1:=F.2.2;clear F;go_wp2_with fail;go_ret;exact ⟨rfl,n1⟩
theorem yA (x op a b c im:Int) (w:World) (hc0:0<=c):
 Calls Tryz.prog 78 #[.agg #[.int .u64 x,.int .u64 op,.int .u64 a,.int .u64 b,.int .u64 c,.int .u64 im]] w fun e w'=>e=.returned (.int .u64 (iA (c%4)))∧Bw w w':=by
 have F:=bS w #[.int .u64 x,.int .u64 op,.int .u64 a,.int .u64 b,.int .u64 c,.int .u64 im] 116;have k4:=ab F.1 4 (v:=.int .u64 c) rfl;have n1:=F.2.2;clear F;obtain ⟨d,hd⟩:∃d,c%4=d:=⟨_,rfl⟩;have hd':0<=d∧d<=3:=by omega
 rw [hd];rcases (show d=0∨d=1∨d=2∨d=3 by omega) with rfl | rfl | rfl | rfl;all_goals
  go_enter Tryz.func78,Tryz.ntmps78;go_wp2_with fail;go_ret;exact ⟨by simp [iA],n1⟩
theorem vY (mode:Int) (w:World) (h:0<=mode∧mode<=2):Calls Tryz.prog 82 #[.int .i64 mode] w fun e w'=>e=.returned (.int .i64 (8+mode))∧w'=w:=by
 rcases (show mode=0∨mode=1∨mode=2 by omega) with rfl | rfl | rfl;all_goals
  go_enter Tryz.func82,Tryz.ntmps82;go_wp2_with fail;go_ret;exact ⟨rfl,rfl⟩
theorem jL {O X:Nat->Prop} {m:MP} {ov:Value} {h:HartM} {ol:List (Nat × Int)} (a:Nat) (val:Int) (w:World) (k:MW w O X m ov h ol) (ha:a<8):
 Calls Tryz.prog 75 #[.pointer (some ⟨m.b,0,none⟩),.int .u64 a,.int .u64 val] w fun e w'=>e=.returned (.tuple #[])∧MW w' O X m ov (eC h (if 0<(a:Int) then h.regs.set a val else h.regs)) ol∧w.grownBy w' (some m.b):=by
 have HK:Hid _:=k;have hb:=k.lt;clear k;rcases Nat.eq_zero_or_pos a with rfl | hp
 ·go_enter Tryz.func75,Tryz.ntmps75;go_wp2_with fail;go_end0;exact ⟨rfl,HK.out,aq _ _⟩
 ·have hr:=HK.out.regs;have hA:∀i,i<8->(cJ h m.gm ov m.gi m.gd m.gp m.pv)[i]?=some (.int .u64 (h.regs[i]?.getD 0)):=fun i hi=>by
   rcases (show i=0∨i=1∨i=2∨i=3∨i=4∨i=5∨i=6∨i=7 by omega) with rfl | rfl | rfl | rfl | rfl | rfl | rfl | rfl <;> rfl
  have c:=ab HK.out.blk a (hA a ha);have f:=ay HK.out.blk a;have hne:((a:Int) == 0)=false:=by simp;omega
  have hset:Hid ((cJ h m.gm ov m.gi m.gd m.gp m.pv).setIfInBounds a (.int .u64 val)=cJ (eC h (h.regs.set a val)) m.gm ov m.gi m.gd m.gp m.pv):=by
   show _=_;rcases (show a=1∨a=2∨a=3∨a=4∨a=5∨a=6∨a=7 by omega) with rfl | rfl | rfl | rfl | rfl | rfl | rfl <;> simp [cJ,eC,hr]
  have HP:Hid (MW (w.setCell ⟨m.b,a,none⟩ (.int .u64 val)) O X m ov (eC h (h.regs.set a val)) ol):=HK.out.put (ak (aq w (some m.b)) a (.int .u64 val)) (by rw [<-hset.out];exact bB HK.out.blk) rfl (by simpa [eC] using hr);have HG:Hid _:=ak (aq w (some m.b)) a (.int .u64 val);have hlt:(a:Int)<8:=by omega
  rw [if_pos (show 0<(a:Int) by omega)];clear hA hset hr;go_enter Tryz.func75,Tryz.ntmps75;go_wp2_with fail;go_end0;exact ⟨rfl,HP.out,HG.out⟩
end Go.Proofs.YtpdddbobhndbjaaGreat
