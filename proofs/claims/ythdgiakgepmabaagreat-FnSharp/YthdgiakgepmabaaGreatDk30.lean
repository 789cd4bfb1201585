import Derived.Test.YthdgiakgepmabaaGreatDk27
import Derived.Test.YthdgiakgepmabaaGreatDk15
import Derived.Test.YthdgiakgepmabaaGreatDk19
namespace Go.Proofs.YthdgiakgepmabaaGreat
open Go.RowKit
set_option linter.unusedVariables false
set_option maxHeartbeats 6400000
set_option maxRecDepth 20000
section
attribute [local go_sem ↓] Go.wp_at_zero Go.wp_at_succ
theorem Byt.gb0 {w w':World} {a:Option Addr} {len r:Nat} {zs:List Int} (h:Byt w a len zs) (hg:w.grownBy w' (some r)) (hne:0<len->∀q,a=some q->q.block≠r):Byt w' a len zs:=by
 rcases Nat.eq_zero_or_pos len with h0 | h0
 ·exact ⟨h.1,h.2.1,.inl h0⟩
 ·exact h.gb' hg (hne h0)
structure RdAt (w:World) (b:Nat) (a:Option Addr) (len cap:Nat) (zs:List Int) (p:Nat):Prop where
 box:w.heap[b]?=some (.cells #[.slice a len cap,VI ((min p len:Nat):Int)] 127 (0,0))
 byt:Byt w a len zs
 ne:0<len->∀q,a=some q->q.block≠b
 len:len<=16777216
theorem RdAt.lt {w:World} {b:Nat} {a:Option Addr} {len cap:Nat} {zs:List Int} {p:Nat} (h:RdAt w b a len cap zs p):b<w.heap.size:=(hpl h.box)
theorem RdAt.keep {w w':World} {b:Nat} {a:Option Addr} {len cap:Nat} {zs:List Int} {p:Nat} (h:RdAt w b a len cap zs p) (hn:Bw w w'):RdAt w' b a len cap zs p:=
 ⟨ae h.box hn h.lt,h.byt.keep hn,h.ne,h.len⟩
theorem RdAt.gb {w w':World} {b r:Nat} {a:Option Addr} {len cap:Nat} {zs:List Int} {p:Nat} (h:RdAt w b a len cap zs p) (hg:w.grownBy w' (some r)) (hb:b≠r) (ha:0<len->∀q,a=some q->q.block≠r):RdAt w' b a len cap zs p:=
 ⟨aA h.box hg hb,h.byt.gb0 hg ha,h.ne,h.len⟩
theorem RdAt.off {w:World} {b r:Nat} {a:Option Addr} {len cap:Nat} {zs:List Int} {p:Nat} (h:RdAt w b a len cap zs p) (hr:w.heap.size<=r):0<len->∀q,a=some q->q.block≠r:=by
 intro h0 q hq;rcases h.byt.2.2 with h1 | ⟨g,off,e,hlt,_⟩
 ·omega
 ·rw [e] at hq;cases hq;simp only;omega
theorem RdAt.step {w w':World} {b:Nat} {a:Option Addr} {len cap:Nat} {zs:List Int} {p p':Nat} (h:RdAt w b a len cap zs p) (hg:w.grownBy w' (some b)) (hb:w'.heap[b]?=some (.cells #[.slice a len cap,VI ((min p' len:Nat):Int)] 127 (0,0))):RdAt w' b a len cap zs p':=
 ⟨hb,h.byt.gb0 hg h.ne,h.ne,h.len⟩
theorem iI (b len cap p:Nat) (a:Option Addr) (zs:List Int) (w:World) (h:RdAt w b a len cap zs p):
 Calls Tryz.prog 44 #[PT b 0] w fun e w'=>e=.returned (.int .u8 (atM zs p))∧RdAt w' b a len cap zs (p+1)∧w.grownBy w' (some b):=by
 have HR:=hid h;have c0:=ab h.box 0 (show (#[Value.slice a len cap,VI ((min p len:Nat):Int)]:Array Value)[0]?=some (.slice a len cap) from rfl);have c1:=ab h.box 1 (show (#[Value.slice a len cap,VI ((min p len:Nat):Int)]:Array Value)[1]?=some (VI ((min p len:Nat):Int)) from rfl);have f1:=ap h.box 1;have hl:=h.len;by_cases hp:p<len
 ·have hm:min p len=p:=by omega
  rw [hm] at c1;rcases h.byt.2.2 with h3 | ⟨g,off,rfl,hgw,hc⟩
  ·omega
  have g1:=hc p hp;have g2:=h.byt.2.1 p;have hne:=h.ne (by omega) (AD g off) rfl;have HZ:Hid (atM zs p=zs[p]?.getD 0):=rfl;rw [HZ.out];generalize zs[p]?.getD 0=z at g1 g2 |-;obtain ⟨g21,g22⟩:=g2;clear hc h hm HZ;go_enter Tryz.func44,Tryz.ntmps44;go_wp2;go_quiet (fail);rename Nat=>nq';go_wp2;go_quiet (fail);go_wp2;go_ret;have hg:=au (rr (ao w (some b)) (nq'+nq)) 1 (VI ((p:Int)+1));refine ⟨rfl,HR.out.step hg ?_,hg⟩;have:=cf (w:=w.drewN (nq'+nq)) HR.out.box 1 (VI ((p:Int)+1));rw [show min (p+1) len=p+1 by omega];exact this
 ·have hm:min p len=len:=by omega
  have HZ:Hid (atM zs p=0):=by
   show zs[p]?.getD 0=0;rw [List.getElem?_eq_none (by rw [h.byt.1];omega)];rfl
  rw [HZ.out];rw [hm] at c1;clear HZ h hm;go_enter Tryz.func44,Tryz.ntmps44;go_wp2;go_quiet (fail);go_wp2;go_ret;have hg:=rr (ao w (some b)) nq;refine ⟨rfl,HR.out.step hg ?_,hg⟩;rw [show min (p+1) len=min p len by omega];exact HR.out.box
def lZ (zs:List Int) (p k:Nat):Int:=num ((List.range k).map fun j=>atM zs (p+j))
theorem Fv {zs:List Int} (h:∀i:Nat,0<=zs[i]?.getD 0∧zs[i]?.getD 0<=255) (p k:Nat):0<=lZ zs p k∧lZ zs p k<256^k:=
 lN _ k (fun z hz=>by
  simp only [List.mem_map] at hz;obtain ⟨j,_,rfl⟩:=hz;exact h _) (by simp)
theorem qa (zs:List Int) (p k:Nat):lZ zs p (k+1)=lZ zs p k+256^k*atM zs (p+k):=by
 unfold lZ;rw [ij,ny];simp [num]
theorem ip (b len cap p n:Nat) (a:Option Addr) (zs:List Int) (w:World) (h:RdAt w b a len cap zs p) (hn:n<=8):
 Calls Tryz.prog 46 #[PT b 0,VI n] w fun e w'=>e=.returned (VU (lZ zs p n))∧RdAt w' b a len cap zs (p+n)∧w.grownBy w' (some b):=by
 have HR:=hid h;have HBd:=hid h.byt.2.1;clear h;go_enter Tryz.func46,Tryz.ntmps46;go_wp2;go_loopw [5,8] (fun vv iv wr=>∃(k:Nat),k<=n∧vv=VU (lZ zs p k)∧iv=VI k∧RdAt wr b a len cap zs (p+k)∧w.grownBy wr (some b)) (fun _ iv _=>n-(intOf iv).toNat)
 case atStart=>exact ⟨0,Nat.zero_le _,rfl,rfl,HR.out,ao _ _⟩
 case round=>
  obtain ⟨k,hk,rfl,rfl,hR,hG⟩:=hrel;have HRk:Hid _:=hR;have HGk:Hid _:=hG;clear hR hG;by_cases hkn:k<n
  ·have hb1:=Fv HBd.out p k;have hy:=HBd.out (p+k);have HS:Hid _:=qa zs p k;have HY:Hid (atM zs (p+k)=zs[p+k]?.getD 0):=rfl;rw [<-HY.out] at hy;obtain ⟨x,hx⟩:∃x,lZ zs p k=x:=⟨_,rfl⟩;obtain ⟨y,hyy⟩:∃y,atM zs (p+k)=y:=⟨_,rfl⟩;have HYy:Hid _:=hyy;rw [hx,hyy] at HS;rw [hx] at hb1 |-;rw [hyy] at hy;obtain ⟨hb11,hb12⟩:=hb1;obtain ⟨hy1,hy2⟩:=hy;clear hx hyy;have hcs:k=0∨k=1∨k=2∨k=3∨k=4∨k=5∨k=6∨k=7:=by omega
   rcases hcs with rfl | rfl | rfl | rfl | rfl | rfl | rfl | rfl;all_goals
    go_wp2_with fail;refine (iI b len cap _ a zs wr HRk.out).mono ?_;rintro e v1 ⟨rfl,hR1,hG1⟩;have HG1:Hid _:=dY HGk.out hG1;have HR1:Hid _:=hR1;rw [HYy.out];clear hR1 hG1;go_wp2_with fail
   ·refine ⟨⟨1,by omega,?_,rfl,HR1.out,HG1.out⟩,by simp [intOf];omega⟩;have e:=eV 0 1 x y rfl hb11 (by omega) hy1 (by omega) (by omega);rw [Int.mul_one] at e;rw [e,HS.out,show ((256:Int)^0)=1 from rfl,Int.one_mul]
   ·refine ⟨⟨2,by omega,?_,rfl,HR1.out,HG1.out⟩,by simp [intOf];omega⟩;rw [eV 8 256 x y rfl hb11 (by omega) hy1 (by omega) (by omega),HS.out,show ((256:Int)^1)=256 from rfl,Int.mul_comm 256 y]
   ·refine ⟨⟨3,by omega,?_,rfl,HR1.out,HG1.out⟩,by simp [intOf];omega⟩;rw [eV 16 65536 x y rfl hb11 (by omega) hy1 (by omega) (by omega),HS.out,show ((256:Int)^2)=65536 from rfl,Int.mul_comm 65536 y]
   ·refine ⟨⟨4,by omega,?_,rfl,HR1.out,HG1.out⟩,by simp [intOf];omega⟩;rw [eV 24 16777216 x y rfl hb11 (by omega) hy1 (by omega) (by omega),HS.out,show ((256:Int)^3)=16777216 from rfl,Int.mul_comm 16777216 y]
   ·refine ⟨⟨5,by omega,?_,rfl,HR1.out,HG1.out⟩,by simp [intOf];omega⟩;rw [eV 32 4294967296 x y rfl hb11 (by omega) hy1 (by omega) (by omega),HS.out,show ((256:Int)^4)=4294967296 from rfl,Int.mul_comm 4294967296 y]
   ·refine ⟨⟨6,by omega,?_,rfl,HR1.out,HG1.out⟩,by simp [intOf];omega⟩;rw [eV 40 1099511627776 x y rfl hb11 (by omega) hy1 (by omega) (by omega),HS.out,show ((256:Int)^5)=1099511627776 from rfl,Int.mul_comm 1099511627776 y]
   ·refine ⟨⟨7,by omega,?_,rfl,HR1.out,HG1.out⟩,by simp [intOf];omega⟩;rw [eV 48 281474976710656 x y rfl hb11 (by omega) hy1 (by omega) (by omega),HS.out,show ((256:Int)^6)=281474976710656 from rfl,Int.mul_comm 281474976710656 y]
   ·refine ⟨⟨8,by omega,?_,rfl,HR1.out,HG1.out⟩,by simp [intOf];omega⟩;rw [eV 56 72057594037927936 x y rfl hb11 (by omega) hy1 (by omega) (by omega),HS.out,show ((256:Int)^7)=72057594037927936 from rfl,Int.mul_comm 72057594037927936 y]
  ·have hkn':k=n:=by omega
   subst hkn';go_wp2;go_ret;exact ⟨rfl,HRk.out,HGk.out⟩
end
section
attribute [local go_sem ↓] Go.wp_at_zero Go.wp_at_succ
theorem kL (b len cap p:Nat) (a:Option Addr) (zs:List Int) (w:World) (h:RdAt w b a len cap zs p):
 Calls Tryz.prog 43 #[PT b 0] w fun e w'=>(∃x,e=.returned x∧TlbOwn w.heap.size w' x (ac (atM zs p)))∧RdAt w' b a len cap zs (p+1)∧w.grownBy w' (some b):=by
 have hb:=h.byt.2.1 p;have HR:Hid _:=h;have hbl:=h.lt;obtain ⟨y,hy⟩:∃y,atM zs p=y:=⟨_,rfl⟩;have HY:Hid _:=hy;rw [show zs[p]?.getD 0=y from hy] at hb;rw [hy];clear hy h;obtain ⟨hy1,hy2⟩:=hb;obtain ⟨m,hm1,hm2,hm3⟩:∃m:Nat,1+y/4%4=m∧1<=m∧m<=4:=⟨(1+y/4%4).toNat,by omega,by omega,by omega⟩;have a0:=bF w #[VI 0,VI 0,SN] 40;have HA0:Hid _:=a0.1;have n0:=a0.2.2;have l0:=a0.2.1;clear a0;have hcs:y%4=0∨y%4=1∨y%4=2∨y%4=3:=by omega
 go_enter Tryz.func43,Tryz.ntmps43;go_upto_region 1 with fail;generalize w.alloc (Obj.cells #[VI 0,VI 0,SN] 40)=v0 at HA0 n0 l0 |-;go_wp2_with fail;refine (iI b len cap p a zs v0 (HR.out.keep n0)).mono ?_;rintro e v1 ⟨rfl,hR1,hG1⟩;rw [HY.out];have HR1:Hid _:=hR1;have HG1:Hid _:=hG1;have HA1:Hid _:=aA HA0.out hG1 (show w.heap.size≠b by omega);have hs1:=hG1.size;clear hR1 hG1 HA0;go_upto_region 2 with fail;have HE:Hid (∀s:Nat,(2:Int)^(y%4).toNat=s->ac y=⟨s,m,List.replicate (s*m) cM⟩):=by
  intro s hs;unfold ac;rw [hs,hm1];have:(2:Nat)^(y%4).toNat=s:=by
   have h2:((2:Int)^(y%4).toNat)=(((2:Nat)^(y%4).toNat:Nat):Int):=by simp
   omega
  rw [this];rfl
 rcases hcs with hc | hc | hc | hc
 ·have HEs:=hid (HE.out 1 (by rw [hc];rfl));rw [Nat.one_mul] at HEs;have hnb:m<=32:=by omega
  obtain ⟨cs,hcs,hmk⟩:=Aw m (by omega);have n2:=(Below.refl v1.heap.size v1).alloc nle (Obj.cells cs 154);have HA2:=ae HA1.out n2 (by omega);have HS2:Hid _:=aR (P:=Tryz.prog) (T:=40) (V:=#[VI 1,VI m,SL v1.heap.size m m]) HA2 (by kernel_rfl) rfl (by simp [Value.oneCell']);have HB2:Hid _:=aI (V:=#[VI 1,VI m,SL v1.heap.size m m]) HA2 rfl;have hcl:cs.toList.length=m*6:=by rw [hcs,jl,List.length_replicate]
  have O2:Hid (OwnC 154 6 (v1.alloc (Obj.cells cs 154)) v1.heap.size v1.heap.size m m (co (List.replicate m cM))):=by
   have:=OwnC.new 154 6 v1 cs.toList m hcl (by unfold maxLen;omega);rw [Array.toArray_toList,hcs] at this;exact this
  have g2:=aH w.heap.size (#[VI 1,VI m,SL v1.heap.size m m]:Array Value).toList 0 _ _ (ao (v1.alloc (Obj.cells cs 154)) _);have HO3:Hid _:=OwnC.gb O2.out g2 (by omega);have HR3:Hid _:=(HR1.out.keep n2).gb g2 (show b≠w.heap.size by omega) (HR.out.off nle);have HGw:Hid (w.grownBy ((v1.alloc (Obj.cells cs 154)).setCells w.heap.size 0 (#[VI 1,VI m,SL v1.heap.size m m]:Array Value).toList) (some b)):=by
   have hG:=HG1.out;exact ⟨g2.os.trans (n2.os.trans (hG.os.trans n0.os)),g2.tape.trans (n2.tape.trans (hG.tape.trans n0.tape)),g2.output.trans (n2.output.trans (hG.output.trans n0.output)),by have:=g2.size;have:=n2.size;omega,fun k hk hne=>(g2.block k (by have:=n2.size;omega) (by simp;omega)).trans ((n2.block k (by omega)).trans ((hG.block k (by omega) hne).trans (n0.block k hk)))⟩
  clear HA2 hcl hcs;go_wp2_with ((with_reducible refine az ?_ ?_ HS2.out ?_);(exact rfl);(exact rfl));have e1:=HB2.out;refine dE (b:=w.heap.size) Tryz.results43 rfl (bC (P:=Tryz.prog) e1 Tryz.underlying40 rfl (by kernel_rfl)) rfl ?_;refine ⟨⟨_,rfl,?_⟩,HR3.out,HGw.out⟩;rw [HEs.out];refine ⟨v1.heap.size,m,by simp,?_⟩;simp only [List.length_replicate];exact bS HO3.out (by omega)
 ·have HEs:=hid (HE.out 2 (by rw [hc];rfl));obtain ⟨n,hn,hnm⟩:∃n:Nat,2*m=n∧(2:Int)*(m:Int)=(n:Int):=⟨2*m,rfl,by omega⟩;have hnb:n<=32:=by omega
  rw [hn] at HEs;clear hn;obtain ⟨cs,hcs,hmk⟩:=Aw n (by omega);have n2:=(Below.refl v1.heap.size v1).alloc nle (Obj.cells cs 154);have HA2:=ae HA1.out n2 (by omega);have HS2:Hid _:=aR (P:=Tryz.prog) (T:=40) (V:=#[VI 2,VI m,SL v1.heap.size n n]) HA2 (by kernel_rfl) rfl (by simp [Value.oneCell']);have HB2:Hid _:=aI (V:=#[VI 2,VI m,SL v1.heap.size n n]) HA2 rfl;have hcl:cs.toList.length=n*6:=by rw [hcs,jl,List.length_replicate]
  have O2:Hid (OwnC 154 6 (v1.alloc (Obj.cells cs 154)) v1.heap.size v1.heap.size n n (co (List.replicate n cM))):=by
   have:=OwnC.new 154 6 v1 cs.toList n hcl (by unfold maxLen;omega);rw [Array.toArray_toList,hcs] at this;exact this
  have g2:=aH w.heap.size (#[VI 2,VI m,SL v1.heap.size n n]:Array Value).toList 0 _ _ (ao (v1.alloc (Obj.cells cs 154)) _);have HO3:Hid _:=OwnC.gb O2.out g2 (by omega);have HR3:Hid _:=(HR1.out.keep n2).gb g2 (show b≠w.heap.size by omega) (HR.out.off nle);have HGw:Hid (w.grownBy ((v1.alloc (Obj.cells cs 154)).setCells w.heap.size 0 (#[VI 2,VI m,SL v1.heap.size n n]:Array Value).toList) (some b)):=by
   have hG:=HG1.out;exact ⟨g2.os.trans (n2.os.trans (hG.os.trans n0.os)),g2.tape.trans (n2.tape.trans (hG.tape.trans n0.tape)),g2.output.trans (n2.output.trans (hG.output.trans n0.output)),by have:=g2.size;have:=n2.size;omega,fun k hk hne=>(g2.block k (by have:=n2.size;omega) (by simp;omega)).trans ((n2.block k (by omega)).trans ((hG.block k (by omega) hne).trans (n0.block k hk)))⟩
  clear HA2 hcl hcs;go_wp2_with ((with_reducible refine az ?_ ?_ HS2.out ?_);(exact rfl);(exact rfl));have e1:=HB2.out;refine dE (b:=w.heap.size) Tryz.results43 rfl (bC (P:=Tryz.prog) e1 Tryz.underlying40 rfl (by kernel_rfl)) rfl ?_;refine ⟨⟨_,rfl,?_⟩,HR3.out,HGw.out⟩;rw [HEs.out];refine ⟨v1.heap.size,n,by simp,?_⟩;simp only [List.length_replicate];exact bS HO3.out (by omega)
 ·have HEs:=hid (HE.out 4 (by rw [hc];rfl));obtain ⟨n,hn,hnm⟩:∃n:Nat,4*m=n∧(4:Int)*(m:Int)=(n:Int):=⟨4*m,rfl,by omega⟩;have hnb:n<=32:=by omega
  rw [hn] at HEs;clear hn;obtain ⟨cs,hcs,hmk⟩:=Aw n (by omega);have n2:=(Below.refl v1.heap.size v1).alloc nle (Obj.cells cs 154);have HA2:=ae HA1.out n2 (by omega);have HS2:Hid _:=aR (P:=Tryz.prog) (T:=40) (V:=#[VI 4,VI m,SL v1.heap.size n n]) HA2 (by kernel_rfl) rfl (by simp [Value.oneCell']);have HB2:Hid _:=aI (V:=#[VI 4,VI m,SL v1.heap.size n n]) HA2 rfl;have hcl:cs.toList.length=n*6:=by rw [hcs,jl,List.length_replicate]
  have O2:Hid (OwnC 154 6 (v1.alloc (Obj.cells cs 154)) v1.heap.size v1.heap.size n n (co (List.replicate n cM))):=by
   have:=OwnC.new 154 6 v1 cs.toList n hcl (by unfold maxLen;omega);rw [Array.toArray_toList,hcs] at this;exact this
  have g2:=aH w.heap.size (#[VI 4,VI m,SL v1.heap.size n n]:Array Value).toList 0 _ _ (ao (v1.alloc (Obj.cells cs 154)) _);have HO3:Hid _:=OwnC.gb O2.out g2 (by omega);have HR3:Hid _:=(HR1.out.keep n2).gb g2 (show b≠w.heap.size by omega) (HR.out.off nle);have HGw:Hid (w.grownBy ((v1.alloc (Obj.cells cs 154)).setCells w.heap.size 0 (#[VI 4,VI m,SL v1.heap.size n n]:Array Value).toList) (some b)):=by
   have hG:=HG1.out;exact ⟨g2.os.trans (n2.os.trans (hG.os.trans n0.os)),g2.tape.trans (n2.tape.trans (hG.tape.trans n0.tape)),g2.output.trans (n2.output.trans (hG.output.trans n0.output)),by have:=g2.size;have:=n2.size;omega,fun k hk hne=>(g2.block k (by have:=n2.size;omega) (by simp;omega)).trans ((n2.block k (by omega)).trans ((hG.block k (by omega) hne).trans (n0.block k hk)))⟩
  clear HA2 hcl hcs;go_wp2_with ((with_reducible refine az ?_ ?_ HS2.out ?_);(exact rfl);(exact rfl));have e1:=HB2.out;refine dE (b:=w.heap.size) Tryz.results43 rfl (bC (P:=Tryz.prog) e1 Tryz.underlying40 rfl (by kernel_rfl)) rfl ?_;refine ⟨⟨_,rfl,?_⟩,HR3.out,HGw.out⟩;rw [HEs.out];refine ⟨v1.heap.size,n,by simp,?_⟩;simp only [List.length_replicate];exact bS HO3.out (by omega)
 ·have HEs:=hid (HE.out 8 (by rw [hc];rfl));obtain ⟨n,hn,hnm⟩:∃n:Nat,8*m=n∧(8:Int)*(m:Int)=(n:Int):=⟨8*m,rfl,by omega⟩;have hnb:n<=32:=by omega
  rw [hn] at HEs;clear hn;obtain ⟨cs,hcs,hmk⟩:=Aw n (by omega);have n2:=(Below.refl v1.heap.size v1).alloc nle (Obj.cells cs 154);have HA2:=ae HA1.out n2 (by omega);have HS2:Hid _:=aR (P:=Tryz.prog) (T:=40) (V:=#[VI 8,VI m,SL v1.heap.size n n]) HA2 (by kernel_rfl) rfl (by simp [Value.oneCell']);have HB2:Hid _:=aI (V:=#[VI 8,VI m,SL v1.heap.size n n]) HA2 rfl;have hcl:cs.toList.length=n*6:=by rw [hcs,jl,List.length_replicate]
  have O2:Hid (OwnC 154 6 (v1.alloc (Obj.cells cs 154)) v1.heap.size v1.heap.size n n (co (List.replicate n cM))):=by
   have:=OwnC.new 154 6 v1 cs.toList n hcl (by unfold maxLen;omega);rw [Array.toArray_toList,hcs] at this;exact this
  have g2:=aH w.heap.size (#[VI 8,VI m,SL v1.heap.size n n]:Array Value).toList 0 _ _ (ao (v1.alloc (Obj.cells cs 154)) _);have HO3:Hid _:=OwnC.gb O2.out g2 (by omega);have HR3:Hid _:=(HR1.out.keep n2).gb g2 (show b≠w.heap.size by omega) (HR.out.off nle);have HGw:Hid (w.grownBy ((v1.alloc (Obj.cells cs 154)).setCells w.heap.size 0 (#[VI 8,VI m,SL v1.heap.size n n]:Array Value).toList) (some b)):=by
   have hG:=HG1.out;exact ⟨g2.os.trans (n2.os.trans (hG.os.trans n0.os)),g2.tape.trans (n2.tape.trans (hG.tape.trans n0.tape)),g2.output.trans (n2.output.trans (hG.output.trans n0.output)),by have:=g2.size;have:=n2.size;omega,fun k hk hne=>(g2.block k (by have:=n2.size;omega) (by simp;omega)).trans ((n2.block k (by omega)).trans ((hG.block k (by omega) hne).trans (n0.block k hk)))⟩
  clear HA2 hcl hcs;go_wp2_with ((with_reducible refine az ?_ ?_ HS2.out ?_);(exact rfl);(exact rfl));have e1:=HB2.out;refine dE (b:=w.heap.size) Tryz.results43 rfl (bC (P:=Tryz.prog) e1 Tryz.underlying40 rfl (by kernel_rfl)) rfl ?_;refine ⟨⟨_,rfl,?_⟩,HR3.out,HGw.out⟩;rw [HEs.out];refine ⟨v1.heap.size,n,by simp,?_⟩;simp only [List.length_replicate];exact bS HO3.out (by omega)
theorem ja (m:Int) (w:World):Calls Tryz.prog 73 #[VI m] w fun e w'=>e=.returned (.bool (decide (0<=m∧m<=2)))∧w'=w:=by
 by_cases h1:0<=m
 ·by_cases h2:m<=2
  ·go_enter Tryz.func73,Tryz.ntmps73;go_wp2;go_ret;exact ⟨aL (by simp [h1,h2]),rfl⟩
  ·go_enter Tryz.func73,Tryz.ntmps73;go_wp2;go_ret;exact ⟨aL (by simp [h2]),rfl⟩
 ·go_enter Tryz.func73,Tryz.ntmps73;go_wp2;go_ret;exact ⟨aL (by simp;omega),rfl⟩
theorem gO (x:Int) (w:World) (h0:0<=x) (h1:x<=18446744073709551615):Calls Tryz.prog 74 #[VU x] w fun e w'=>e=.returned (.bool (de x))∧w'=w:=by
 have HS:Hid (de x=(x/1152921504606846976 == 0 || x/1152921504606846976 == 8)):=by
  show _=_;unfold de;rw [show x/1152921504606846976%16=x/1152921504606846976 by omega]
 have hq:0<=x/1152921504606846976∧x/1152921504606846976<=15:=by omega
 rw [HS.out];clear HS;by_cases hz:x/1152921504606846976=0
 ·go_enter Tryz.func74,Tryz.ntmps74;go_wp2;go_ret;exact ⟨aL (by simp [hz]),rfl⟩
 ·have hz':(x/1152921504606846976 == 0)=false:=by simpa using hz
  go_enter Tryz.func74,Tryz.ntmps74;go_wp2;go_ret;exact ⟨aL (by simp [hz]),rfl⟩
theorem Dv (b len cap p:Nat) (a:Option Addr) (zs:List Int) (w:World) (h:RdAt w b a len cap zs p):
 Calls Tryz.prog 47 #[PT b 0] w fun e w'=>e=.returned (VU (if de (cw zs p)=true then cw zs p else 0))∧RdAt w' b a len cap zs (p+8)∧w.grownBy w' (some b):=by
 have hbd:=mr h.byt.2.1 p;have HR:Hid _:=h;clear h;obtain ⟨x,hx⟩:∃x,cw zs p=x:=⟨_,rfl⟩;have HX:Hid (lZ zs p 8=x):=hx;rw [hx] at hbd |-;obtain ⟨sc,hsc⟩:∃sc,de x=sc:=⟨_,rfl⟩;have HSc:Hid _:=hsc;rw [hsc];clear hx hsc;go_enter Tryz.func47,Tryz.ntmps47;go_wp2_with fail;refine (ip b len cap p 8 a zs w HR.out (by omega)).mono ?_;rintro e v1 ⟨rfl,hR1,hG1⟩;rw [HX.out];have HR1:Hid _:=hR1;have HG1:Hid _:=hG1;clear hR1 hG1;go_wp2_with fail;refine (gO x v1 hbd.1 hbd.2).mono ?_;rintro e v2 ⟨rfl,hv⟩;rw [hv,HSc.out];clear hv v2;cases sc
 ·go_wp2;go_ret;exact ⟨rfl,HR1.out,HG1.out⟩
 ·go_wp2;go_ret;exact ⟨rfl,HR1.out,HG1.out⟩
theorem Ar {v v1:World} {r:Option Nat} (h:Bw v v1):v.grownBy v1 r:=⟨h.os,h.tape,h.output,h.size,fun k hk _=>h.block k hk⟩
def rgl (zs:List Int) (p t:Nat):List Int:=(0::(List.range t).map fun j=>cw zs (p+8*j))++List.replicate (7-t) 0
theorem Fe (zs:List Int) (p t:Nat):(rgl zs p t).length=t+1+(7-t):=by
 simp [rgl];omega
theorem Dw (zs:List Int) (p t:Nat) (h:t<7):(rgl zs p t)[t+1]?.getD 0=0:=by
 unfold rgl;rw [List.getElem?_append_right (by simp)];simp;cases h7:7-t with
 | zero=>omega
 | succ n=>simp
theorem Ff (zs:List Int) (p t:Nat) (h:t<7):(rgl zs p t).set (t+1) (cw zs (p+8*t))=rgl zs p (t+1):=by
 unfold rgl;rw [List.set_append_right _ _ (by simp),ij];obtain ⟨m,hm⟩:∃m,7-t=m+1:=⟨6-t,by omega⟩;rw [hm,show 7-(t+1)=m by omega,List.replicate_succ];simp
theorem GF:∀u:World,(Instr.makeSlice 32 (VI 8) (VI 8)).run Tryz.prog u=.ok (SL u.heap.size 8 8) (u.alloc (.cells (cW (List.replicate 8 0)).toArray 33)):=by
 intro u
 kernel_rfl
theorem Dx (b len cap p:Nat) (a:Option Addr) (zs:List Int) (w:World) (h:RdAt w b a len cap zs p):
 Calls Tryz.prog 48 #[PT b 0] w fun e w'=>(∃g,e=.returned (SL g 8 8)∧OwnC 33 1 w' w.heap.size g 8 8 (cW (0::(List.range 7).map fun j=>cw zs (p+8*j))))∧RdAt w' b a len cap zs (p+56)∧w.grownBy w' (some b):=by
 have HR:Hid _:=h;have hbl:=h.lt;clear h;have hmk:=GF;have n0:=(Below.refl w.heap.size w).alloc nle (Obj.cells (cW (List.replicate 8 0)).toArray 33);have O0:=hid (OwnC.new 33 1 w (cW (List.replicate 8 0)) 8 rfl (by decide));have HR0:Hid _:=HR.out.keep n0;have G0:Hid _:=Ar (r:=some b) n0;clear n0;go_enter Tryz.func48,Tryz.ntmps48;go_wp2;go_loopw [4] (fun iv wr=>∃(t:Nat),t<=7∧iv=VI ((t+1:Nat):Int)∧RdAt wr b a len cap zs (p+8*t)∧OwnC 33 1 wr w.heap.size w.heap.size 8 8 (cW (rgl zs p t))∧w.grownBy wr (some b)) (fun iv _=>9-(intOf iv).toNat)
 case atStart=>exact ⟨0,Nat.zero_le _,rfl,HR0.out,O0.out,G0.out⟩
 case round=>
  clear O0 HR0 G0;obtain ⟨t,ht,rfl,hR,hO,hG⟩:=hrel;have HRt:Hid _:=hR;have HOt:Hid _:=hO;have HGt:Hid _:=hG;clear hR hO hG;by_cases ht7:t<7
  ·obtain ⟨L,hL⟩:∃L,cw zs (p+8*t)=L:=⟨_,rfl⟩;have HL:Hid (lZ zs (p+8*t) 8=L):=hL;have HL2:Hid _:=hL;clear hL;go_wp2_with fail;refine (ip b len cap (p+8*t) 8 a zs wr HRt.out (by omega)).mono ?_;rintro e v1 ⟨rfl,hR1,hG1⟩;rw [HL.out];have O1:=OwnC.gb HOt.out hG1 (show w.heap.size≠b by omega);have c1:=aQ O1 (t+1) (VU 0) (by rw [rX _ _ (by rw [Fe];omega),Dw zs p t (by omega)]);have f1:=bL O1 (t+1);have hsz:=(OwnC.facts O1).2.2.1;have O2:Hid (OwnC 33 1 (v1.setCell ⟨w.heap.size,t+1,none⟩ (VU L)) w.heap.size w.heap.size 8 8 (cW (rgl zs p (t+1)))):=by
    have:=br O1 (t+1) (VU L);rw [uc,<-HL2.out,Ff zs p t ht7,HL2.out] at this;exact this
   have g2:=au (ao v1 (some w.heap.size)) (t+1) (VU L);have HR2:Hid _:=hR1.gb g2 (show b≠w.heap.size by omega) (HR.out.off nle);have HG2:Hid (w.grownBy (v1.setCell ⟨w.heap.size,t+1,none⟩ (VU L)) (some b)):=by
    have h0:=dY HGt.out hG1;exact ⟨g2.os.trans h0.os,g2.tape.trans h0.tape,g2.output.trans h0.output,Nat.le_trans h0.size g2.size,fun k hk hne=>(g2.block k (ltl hk h0.size) (by simp;omega)).trans (h0.block k hk hne)⟩
   clear O1 g2 hR1 hG1;go_wp2_with fail;refine ⟨⟨t+1,by omega,by go_num,HR2.out,O2.out,HG2.out⟩,?_⟩;simp [intOf];omega
  ·have ht':t=7:=by omega
   subst ht';go_wp2;go_ret;exact ⟨⟨_,rfl,HOt.out⟩,HRt.out,HGt.out⟩
end
def tK (x:Int):Array Value:=#[VU x,VU (x%256),VU (x/256%256%8),VU (x/256%256/8%8),VU (x/65536%256%8),VU (hZ (x/16777216)%18446744073709551616)]
theorem BL (x:Int) (w:World) (h0:0<=x) (h1:x<4294967296):
 Calls Tryz.prog 90 #[VU x] w fun e w'=>e=.returned (.agg (tK x))∧Bw w w':=by
 obtain ⟨v1,Ev1,F⟩:=ax1 w #[VU 0,VU 0,VU 0,VU 0,VU 0,VU 0] 149;have e1:x/16777216%256=x/16777216:=by omega
 have e2:IntKind.i8.wrap (x/16777216)=hZ (x/16777216):=by
  unfold hZ;simp [IntKind.wrap,IntKind.signed,IntKind.bits];split <;> omega
 have hi: -128<=hZ (x/16777216)∧hZ (x/16777216)<=127:=by unfold hZ;split <;> omega
 have e3:IntKind.i64.wrap (hZ (x/16777216))=hZ (x/16777216):=(IntKind.wrap_i64 _).trans (by omega);have e4:IntKind.u64.wrap (hZ (x/16777216))=hZ (x/16777216)%18446744073709551616:=IntKind.wrap_u64 _;unfold tK;generalize hZ (x/16777216)=im at *;go_enter Tryz.func90,Tryz.ntmps90;go_upto_region 1 with fail;rw [Ev1.out];clear Ev1;obtain ⟨f1,f2,n1⟩:=F;have k0:=ab f1 0 (v:=VU 0) rfl;have k1:=ab f1 1 (v:=VU 0) rfl;have k2:=ab f1 2 (v:=VU 0) rfl;have k3:=ab f1 3 (v:=VU 0) rfl;have k4:=ab f1 4 (v:=VU 0) rfl;have k5:=ab f1 5 (v:=VU 0) rfl;have ff:=ap f1;have ff0:=ff 0;have ff1:=ff 1;have ff2:=ff 2;have ff3:=ff 3;have ff4:=ff 4;have ff5:=ff 5;have hl:w.heap.size<v1.heap.size:=by omega
 clear f1 f2 ff;go_wp2_with fail;refine bodyPost_ret (v:=.agg #[VU x,VU (x%256),VU (x/256%256%8),VU (x/256%256/8%8),VU (x/65536%256%8),VU (im%18446744073709551616)]) (by simp [results,Tryz.results90,go_sem,k0,k1,k2,k3,k4,k5]) rfl ⟨rfl,?_⟩;repeat (refine cH ?_ nle _ _)
 exact n1
def gQ (op c mode:Int):Bool:=decide (1<=op∧op<=14) && !bH op c mode
theorem Fs (x a b im op c mode:Int) (w:World) (h0:0<=op) (hc0:0<=c) (hc1:c<=7):
 Calls Tryz.prog 81 #[.agg #[VU x,VU op,VU a,VU b,VU c,VU im],VI mode] w fun e w'=>e=.returned (.bool (gQ op c mode))∧Bw w w':=by
 have F:=bF w #[VU x,VU op,VU a,VU b,VU c,VU im] 149;obtain ⟨R,hR⟩:∃R,gQ op c mode=R:=⟨_,rfl⟩;have HR:=hid hR;have HKm:=hid fun m u=>ja m u;rw [hR];clear hR;have hw:IntKind.i64.wrap c=c:=(IntKind.wrap_i64 _).trans (by omega);by_cases hop:op<=14∧1<=op
 ·rcases (show op=1∨op=2∨op=3∨op=4∨op=5∨op=6∨op=7∨op=8∨op=9∨op=10∨op=11∨op=12∨op=13∨op=14 by omega) with rfl | rfl | rfl | rfl | rfl | rfl | rfl | rfl | rfl | rfl | rfl | rfl | rfl | rfl
  case inr.inr.inr.inr.inr.inr.inr.inr.inr.inr.inr.inr.inl=>
   by_cases hm:mode=2
   ·subst hm;go_enter Tryz.func81,Tryz.ntmps81;go_upto_region 1 with fail;generalize w.alloc (Obj.cells #[VU x,VU 13,VU a,VU b,VU c,VU im] 149)=v1 at F |-;obtain ⟨f1,f2,n1⟩:=F;have k1:=ab f1 1 (v:=VU 13) rfl;have k4:=ab f1 4 (v:=VU c) rfl;clear f1 f2;go_wp2_with fail;refine (HKm.out c v1).mono ?_;rintro e u ⟨rfl,hu⟩;rw [hu];clear hu u;go_wp2;go_ret;refine ⟨?_,n1⟩;rw [<-HR.out];simp [gQ,bH];by_cases hc:c<=2
    ·rw [decide_eq_true hc,decide_eq_false (by omega)];rfl
    ·rw [decide_eq_false hc,decide_eq_true (by omega)];rfl
   ·have hm':=decide_eq_false hm;go_enter Tryz.func81,Tryz.ntmps81;go_upto_region 1 with fail;generalize w.alloc (Obj.cells #[VU x,VU 13,VU a,VU b,VU c,VU im] 149)=v1 at F |-;obtain ⟨f1,f2,n1⟩:=F;have k1:=ab f1 1 (v:=VU 13) rfl;have k4:=ab f1 4 (v:=VU c) rfl;clear f1 f2;go_wp2;go_ret;refine ⟨?_,n1⟩;rw [<-HR.out];simp [gQ,bH,hm]
  all_goals
   go_enter Tryz.func81,Tryz.ntmps81;go_upto_region 1 with fail;have k1:=ab F.1 1 (v:=VU _) rfl;have n1:=F.2.2;clear F;go_wp2;go_ret;refine ⟨?_,n1⟩;rw [<-HR.out];first
    | (simp [gQ,bH];done)
    | (simp [gQ,bH];omega)
    | (by_cases hm:mode=0 <;> simp [gQ,bH,hm];done)
    | (by_cases hm:mode=2 <;> simp [gQ,bH,hm];done)
 ·have hr:R=false:=by
   rw [<-HR.out];simp [gQ];omega
  subst hr;obtain ⟨z1,z2,z3,z4,z5,z6,z7,z8,z9,z10,z11,z12,z13,z14⟩:op≠1∧op≠2∧op≠3∧op≠4∧op≠5∧op≠6∧op≠7∧op≠8∧op≠9∧op≠10∧op≠11∧op≠12∧op≠13∧op≠14:=by omega
  go_enter Tryz.func81,Tryz.ntmps81;go_upto_region 1 with fail;have k1:=ab F.1 1 (v:=VU op) rfl;have n1:=F.2.2;clear F;go_wp2;go_ret;exact ⟨rfl,n1⟩
theorem Ax (x op a b c im:Int) (w:World) (hc0:0<=c):
 Calls Tryz.prog 85 #[.agg #[VU x,VU op,VU a,VU b,VU c,VU im]] w fun e w'=>e=.returned (VU (iO (c%4)))∧Bw w w':=by
 have F:=bF w #[VU x,VU op,VU a,VU b,VU c,VU im] 149;have k4:=ab F.1 4 (v:=VU c) rfl;have n1:=F.2.2;clear F;obtain ⟨d,hd⟩:∃d,c%4=d:=⟨_,rfl⟩;have hd':0<=d∧d<=3:=by omega
 rw [hd];rcases (show d=0∨d=1∨d=2∨d=3 by omega) with rfl | rfl | rfl | rfl;all_goals
  go_enter Tryz.func85,Tryz.ntmps85;go_wp2;go_ret;exact ⟨by simp [iO],n1⟩
theorem xX (mode:Int) (w:World) (h:0<=mode∧mode<=2):Calls Tryz.prog 89 #[VI mode] w fun e w'=>e=.returned (VI (8+mode))∧w'=w:=by
 rcases (show mode=0∨mode=1∨mode=2 by omega) with rfl | rfl | rfl;all_goals
  go_enter Tryz.func89,Tryz.ntmps89;go_wp2;go_ret;exact ⟨rfl,rfl⟩
theorem ku {O X:Nat->Prop} {m:MP} {ov:Value} {h:HartM} {ol:List (Nat × Int)} (a:Nat) (val:Int) (w:World) (k:MW w O X m ov h ol) (ha:a<8):
 Calls Tryz.prog 82 #[PT m.b 0,VU a,VU val] w fun e w'=>e=.returned (.tuple #[])∧MW w' O X m ov (eH h (if 0<(a:Int) then h.regs.set a val else h.regs)) ol∧w.grownBy w' (some m.b):=by
 have HK:Hid _:=k;have hb:=k.lt;clear k;rcases Nat.eq_zero_or_pos a with rfl | hp
 ·go_enter Tryz.func82,Tryz.ntmps82;go_wp2;go_end0;exact ⟨rfl,HK.out,ao _ _⟩
 ·have hr:=HK.out.regs;have hA:∀i,i<8->(cJ h m.gm ov m.gi m.gd m.gp m.pv)[i]?=some (VU (h.regs[i]?.getD 0)):=fun i hi=>by
   rcases (show i=0∨i=1∨i=2∨i=3∨i=4∨i=5∨i=6∨i=7 by omega) with rfl | rfl | rfl | rfl | rfl | rfl | rfl | rfl <;> rfl
  have c:=ab HK.out.blk a (hA a ha);have f:=ap HK.out.blk a;have hne:((a:Int) == 0)=false:=by simp;omega
  have hset:Hid ((cJ h m.gm ov m.gi m.gd m.gp m.pv).setIfInBounds a (VU val)=cJ (eH h (h.regs.set a val)) m.gm ov m.gi m.gd m.gp m.pv):=by
   show _=_;rcases (show a=1∨a=2∨a=3∨a=4∨a=5∨a=6∨a=7 by omega) with rfl | rfl | rfl | rfl | rfl | rfl | rfl <;> simp [cJ,eH,hr]
  have HP:Hid (MW (w.setCell (AD m.b a) (VU val)) O X m ov (eH h (h.regs.set a val)) ol):=HK.out.put (au (ao w (some m.b)) a (VU val)) (by rw [<-hset.out];exact bq HK.out.blk) rfl (by simpa [eH] using hr);have HG:Hid _:=au (ao w (some m.b)) a (VU val);have hlt:(a:Int)<8:=by omega
  rw [if_pos (show 0<(a:Int) by omega)];clear hA hset hr;go_enter Tryz.func82,Tryz.ntmps82;go_wp2;go_end0;exact ⟨rfl,HP.out,HG.out⟩
def Cw (plain:Bool) (pick:Int) (O X:Nat->Prop) (m:MP) (PA:World->RunM->Prop) (ov:Value) (ol:List (Nat × Int)) (r:RunM) (w:World) (e:Ending) (w':World):Prop:=
 (r.h.pc%4=0∧(aT plain pick r.h 0 r.h.pc).1.1=0∧dO r.h.mem.length (aT plain pick r.h 0 r.h.pc).1.2 4=true∧e=.returned (.agg (tK (iP plain pick r.h)))∧MW w' O X m ov (bf plain pick r 0 r.h.pc).h ol∧PA w' (bf plain pick r 0 r.h.pc)∧Kp X w w'∧0<=iP plain pick r.h∧iP plain pick r.h<4294967296)∨
 ((cY plain pick r).cause≠0∧e=.panicked [lz (cY plain pick r).cause (cY plain pick r).tval]∧MW w' O X m ov (cY plain pick r).h ol∧PA w' (cY plain pick r)∧Kp X w w'∧(cY plain pick r).h.mem=r.h.mem)
theorem Ew {plain:Bool} {pick:Int} {h0:HartM} {O X:Nat->Prop} {PI:World->Prop} {PA:World->RunM->Prop} {m:MP} (hp:PathOk m plain pick h0 X PI PA) (hpk:0<=pick∧pick<=255) {ov:Value} {ol:List (Nat × Int)} (r:RunM) (w:World)
 (k:MW w O X m ov r.h ol) (hA:PA w r) (hr:ROk r) (hc:SameC 0 r h0) (h0c:r.cause=0):
 Calls Tryz.prog 61 #[PT m.b 0] w fun e w'=>Cw plain pick O X m PA ov ol r w e w':=by
 obtain ⟨v1,Ev1,F⟩:=ax1 w #[VU 0,VU 0,VU 0,VU 0,VU 0,VU 0] 149;have HK:Hid _:=k;have HA:Hid _:=hA;have HP:Hid _:=hp;have HR:Hid _:=hr;have HC:Hid _:=hc;have H0:Hid _:=h0c;have hb:=k.lt;have hpc:=hr.h.pc;have c8:=ab k.blk 8 (v:=VU r.h.pc) rfl;clear k hA hp hr hc h0c;obtain ⟨pc,hpe⟩:∃pc,r.h.pc=pc:=⟨_,rfl⟩;have HPc:Hid _:=hpe;rw [hpe] at hpc c8;clear hpe;obtain ⟨hp0,hp1⟩:=hpc;go_enter Tryz.func61,Tryz.ntmps61;go_upto_region 1 with fail;rw [Ev1.out];clear Ev1;obtain ⟨f1,f2,n1⟩:=F;have HF1:Hid _:=f1;replace c8:=Below.cell2 n1 c8 hb;have K1:=hid (HK.out.low n1);have A1:=hid (HP.out.keep HA.out (fun i hi=>(HK.out.xo i hi).2) (Kp.of_below (fun _=>False) n1) (fun _ _ h=>h));have HN1:Hid _:=n1;clear f1 f2 n1;by_cases h4:pc%4=0
 ·go_wp2_with fail;refine (rf HP.out hpk r 0 pc 4 v1 K1.out A1.out HR.out HC.out.up H0.out (by omega) (by omega) ⟨hp0,hp1⟩ ⟨by omega,by omega⟩).mono ?_;rw [Ao pc 4 (by omega)];rintro e v2 ⟨he,k2,a2,n2⟩;have nx:¬X w.heap.size:=fun h=>by have:=(HK.out.xo _ h).2;omega
  have HF2:=Kp.hid HF1 n2 nx;have N2:=hid ((Kp.of_below X HN1.out).trans n2);by_cases hz:(aT plain pick r.h 0 pc).1.1=0
  ·have hT:ag plain pick 0 r [(pc,4,0)]=(bf plain pick r 0 pc,[(pc,4,(aT plain pick r.h 0 pc).1.2)]):=by
    rw [fp _ _ _ _ _ _ hz];rfl
   rw [hT] at he k2 a2;obtain ⟨_,g,rfl,hgl,hg⟩ | ⟨hcc,_⟩:=he
   rotate_left
   ·exact absurd H0.out hcc
   have HZ:Hid _:=hz;have K2:=hid k2;have A2:=hid a2;have HG:Hid _:=hg;have hpb:=(jk HR.out.h plain hpk (kind:=0) (va:=pc) ⟨by omega,by omega⟩ ⟨hp0,hp1⟩).2.2;obtain ⟨pa,hpa⟩:∃pa,(aT plain pick r.h 0 pc).1.2=pa:=⟨_,rfl⟩;have HPa:Hid _:=hpa;rw [hpa] at HG hpb;clear hz k2 a2 hg hpa n2;have HRd:Hid (Calls Tryz.prog 83 #[PT m.b 0,SL g 1 1] v2 fun e w'=>e=mW r.h.mem [(pc,4,pa)] 0∧Bw v2 w'):=
    zu (h:=(bf plain pick r 0 pc).h) 0 [(pc,4,pa)] g 1 v2 K2.out rfl HG.out (by
     intro p hp;rw [List.mem_singleton] at hp;subst hp;exact ⟨⟨hp0,hp1⟩,⟨by simp,by simp⟩,hpb⟩) (by simp [bR]) (by omega)
   go_wp2_with fail;refine Calls.mono HRd.out ?_;rintro e v3 ⟨he,n3⟩;have HF3:=ah HF2 n3;have K3:Hid _:=K2.out.low n3;have A3:=hid (HP.out.keep A2.out (fun i hi=>(K2.out.xo i hi).2) (Kp.of_below (fun _=>False) n3) (fun _ _ h=>h));have N3:=hid (N2.out.trans (Kp.of_below X n3));cases hins:fD r.h.mem.length pa 4
   ·have ho:fL r.h.mem [(pc,4,pa)]=some pc:=rq (a:=[]) (fun p hp=>by simp at hp) hins;unfold mW at he;rw [ho] at he;simp only at he;subst he;go_wp2_with fail;refine ⟨rfl,.inr ?_⟩;have hB:cY plain pick r=bI (bf plain pick r 0 pc) 1 pc:=by
     unfold cY;rw [HPc.out,if_pos h4,if_pos HZ.out,HPa.out,if_neg (by rw [<-mx _ _ _ (by omega),hins];simp)]
    rw [hB];exact ⟨by simp [bI],rfl,K3.out,HP.out.congr _ _ _ A3.out rfl rfl rfl rfl,N3.out,rfl⟩
   ·have ho:fL r.h.mem [(pc,4,pa)]=none:=pj (fun p hp=>by
     rw [List.mem_singleton] at hp;subst hp;exact hins)
    unfold mW at he;rw [ho] at he;simp only at he;have hgd:dO r.h.mem.length pa 4=true:=by rw [<-mx _ _ _ (by omega)];exact hins
    have hx:iS r.h.mem [(pc,4,pa)]=iP plain pick r.h:=by
     unfold iP rdV iS;rw [HPc.out,HPa.out,if_pos hgd];simp [cE]
    rw [hx] at he;subst he;have hxb:0<=iP plain pick r.h∧iP plain pick r.h<4294967296:=by
     have:=fY r.h.mem pa.toNat 4 HK.out.byt;rw [<-hx];unfold iS;simpa [cE] using this
    have HGd:Hid _:=hgd;obtain ⟨xw,hxw⟩:∃xw,iP plain pick r.h=xw:=⟨_,rfl⟩;have HXw:Hid _:=hxw;rw [hxw] at hxb |-;clear hxw hx hgd hins ho;go_wp2_with fail;refine (BL xw v3 hxb.1 hxb.2).mono ?_;rintro e v4 ⟨rfl,n4⟩;have HF4:=ah HF3 n4;have HS:Hid _:=aR (P:=Tryz.prog) (T:=149) (V:=tK xw) HF4.out (by kernel_rfl) rfl (by simp [tK,Value.oneCell']);have HE:=aI (V:=tK xw) HF4.out rfl;have hgb:=aH w.heap.size (tK xw).toList 0 v4 v4 (ao v4 _);have K4:=hid (K3.out.low n4);have A4:=hid (HP.out.keep A3.out (fun i hi=>(K3.out.xo i hi).2) (Kp.of_below (fun _=>False) n4) (fun _ _ h=>h));have N4:=hid (N3.out.trans (Kp.of_below X n4));have HW:Hid _:=bC (P:=Tryz.prog) HE Tryz.underlying149 rfl (by kernel_rfl);obtain ⟨IA,hIA⟩:∃IA,tK xw=IA:=⟨_,rfl⟩;have HIA:Hid _:=hIA;rw [hIA] at HS HE hgb HW |-;clear hIA;go_wp2_with ((with_reducible refine az ?_ ?_ HS.out ?_);(exact rfl);(exact rfl));refine dE (b:=w.heap.size) Tryz.results61 rfl HW.out rfl ?_;refine .inl ?_;rw [HPc.out,HPa.out,HXw.out,HIA.out];exact ⟨h4,HZ.out,HGd.out,rfl,HK.out.box K4.out hgb nle,HP.out.box A4.out (fun i hi=>(K4.out.xo i hi).2) hgb nx,N4.out.box hgb nle,hxb⟩
  ·have hT:=gM plain pick 0 r (pc,4,0) [] hz;rw [hT] at he k2 a2;obtain ⟨hcc,_⟩ | ⟨hcc,rfl⟩:=he
   ·exact absurd hcc hz
   have HZ:Hid _:=hz;clear hz;go_wp2_with fail;refine ⟨rfl,.inr ?_⟩;have hB:cY plain pick r=bI (bf plain pick r 0 pc) (aT plain pick r.h 0 pc).1.1 pc:=by
    unfold cY;rw [HPc.out,if_pos h4,if_neg HZ.out]
   rw [hB];exact ⟨HZ.out,rfl,k2,a2,N2.out,rfl⟩
 ·have h4':=decide_eq_false h4;go_wp2_with fail;refine ⟨rfl,.inr ?_⟩;have hB:cY plain pick r=bI r 20 pc:=by
   unfold cY;rw [HPc.out,if_neg h4]
  rw [hB];exact ⟨by simp [bI],rfl,K1.out,HP.out.congr _ _ _ A1.out rfl rfl rfl rfl,Kp.of_below X HN1.out,rfl⟩
end Go.Proofs.YthdgiakgepmabaaGreat
