import Derived.Test.YtkenjknmfhoppaaGreatSk40
namespace Go.Proofs.YtkenjknmfhoppaaGreat
open Go.RowKit
set_option linter.unusedVariables false
set_option maxHeartbeats 6400000
set_option maxRecDepth 20000
section
attribute [local go_sem ↓] Go.wp_at_zero Go.wp_at_succ
theorem Byt.gb0 {w w':World} {a:Option Addr} {len r:Nat} {zs:List Int} (h:Byt w a len zs) (hg:w.grownBy w' (some r)) (hne:0<len->∀q,a=some q->q.block≠r):Byt w' a len zs:=by
 rcases Nat.eq_zero_or_pos len with h0 | h0
 ·exact ⟨h.1,h.2.1,.inl h0⟩
 ·exact h.gb' hg (hne h0)
structure RdAt (w:World) (b:Nat) (a:Option Addr) (len cap:Nat) (zs:List Int) (p:Nat):Prop where
 box:w.heap[b]?=some (.cells #[.slice a len cap,VI ((min p len:Nat):Int)] 107 (0,0))
 byt:Byt w a len zs
 ne:0<len->∀q,a=some q->q.block≠b
 len:len<=16777216
theorem RdAt.lt {w:World} {b:Nat} {a:Option Addr} {len cap:Nat} {zs:List Int} {p:Nat} (h:RdAt w b a len cap zs p):b<w.heap.size:=(hpl h.box)
theorem RdAt.keep {w w':World} {b:Nat} {a:Option Addr} {len cap:Nat} {zs:List Int} {p:Nat} (h:RdAt w b a len cap zs p) (hn:Bw w w'):RdAt w' b a len cap zs p:=
 ⟨ag h.box hn h.lt,h.byt.keep hn,h.ne,h.len⟩
theorem RdAt.gb {w w':World} {b r:Nat} {a:Option Addr} {len cap:Nat} {zs:List Int} {p:Nat} (h:RdAt w b a len cap zs p) (hg:w.grownBy w' (some r)) (hb:b≠r) (ha:0<len->∀q,a=some q->q.block≠r):RdAt w' b a len cap zs p:=
 ⟨aB h.box hg hb,h.byt.gb0 hg ha,h.ne,h.len⟩
theorem RdAt.off {w:World} {b r:Nat} {a:Option Addr} {len cap:Nat} {zs:List Int} {p:Nat} (h:RdAt w b a len cap zs p) (hr:w.heap.size<=r):0<len->∀q,a=some q->q.block≠r:=by
 intro h0 q hq;rcases h.byt.2.2 with h1 | ⟨g,off,e,hlt,_⟩
 ·omega
 ·rw [e] at hq;cases hq;simp only;omega
theorem RdAt.step {w w':World} {b:Nat} {a:Option Addr} {len cap:Nat} {zs:List Int} {p p':Nat} (h:RdAt w b a len cap zs p) (hg:w.grownBy w' (some b)) (hb:w'.heap[b]?=some (.cells #[.slice a len cap,VI ((min p' len:Nat):Int)] 107 (0,0))):RdAt w' b a len cap zs p':=
 ⟨hb,h.byt.gb0 hg h.ne,h.ne,h.len⟩
theorem iU (b len cap p:Nat) (a:Option Addr) (zs:List Int) (w:World) (h:RdAt w b a len cap zs p):
 Calls Tryz.prog 33 #[PT b 0] w fun e w'=>e=.returned (.int .u8 (atM zs p))∧RdAt w' b a len cap zs (p+1)∧w.grownBy w' (some b):=by
 have HR:=hid h;have c0:=ab h.box 0 (show (#[Value.slice a len cap,VI ((min p len:Nat):Int)]:Array Value)[0]?=some (.slice a len cap) from rfl);have c1:=ab h.box 1 (show (#[Value.slice a len cap,VI ((min p len:Nat):Int)]:Array Value)[1]?=some (VI ((min p len:Nat):Int)) from rfl);have f1:=az h.box 1;have hl:=h.len;by_cases hp:p<len
 ·have hm:min p len=p:=by omega
  rw [hm] at c1;rcases h.byt.2.2 with h3 | ⟨g,off,rfl,hgw,hc⟩
  ·omega
  have g1:=hc p hp;have g2:=h.byt.2.1 p;have hne:=h.ne (by omega) (AD g off) rfl;have HZ:Hid (atM zs p=zs[p]?.getD 0):=rfl;rw [HZ.out];generalize zs[p]?.getD 0=z at g1 g2 |-;obtain ⟨g21,g22⟩:=g2;clear hc h hm HZ;go_enter Tryz.func33,Tryz.ntmps33;go_wp2;go_quiet (fail);rename Nat=>nq';go_wp2;go_quiet (fail);go_wp2;go_ret;have hg:=aq (lN (aw w (some b)) (nq'+nq)) 1 (VI ((p:Int)+1));refine ⟨rfl,HR.out.step hg ?_,hg⟩;have:=co (w:=w.drewN (nq'+nq)) HR.out.box 1 (VI ((p:Int)+1));rw [show min (p+1) len=p+1 by omega];exact this
 ·have hm:min p len=len:=by omega
  have HZ:Hid (atM zs p=0):=by
   show zs[p]?.getD 0=0;rw [List.getElem?_eq_none (by rw [h.byt.1];omega)];rfl
  rw [HZ.out];rw [hm] at c1;clear HZ h hm;go_enter Tryz.func33,Tryz.ntmps33;go_wp2;go_quiet (fail);go_wp2;go_ret;have hg:=lN (aw w (some b)) nq;refine ⟨rfl,HR.out.step hg ?_,hg⟩;rw [show min (p+1) len=min p len by omega];exact HR.out.box
def mt (zs:List Int) (p k:Nat):Int:=num ((List.range k).map fun j=>atM zs (p+j))
theorem Ex {zs:List Int} (h:∀i:Nat,0<=zs[i]?.getD 0∧zs[i]?.getD 0<=255) (p k:Nat):0<=mt zs p k∧mt zs p k<256^k:=
 lX _ k (fun z hz=>by
  simp only [List.mem_map] at hz;obtain ⟨j,_,rfl⟩:=hz;exact h _) (by simp)
theorem qF (zs:List Int) (p k:Nat):mt zs p (k+1)=mt zs p k+256^k*atM zs (p+k):=by
 unfold mt;rw [iF,oI];simp [num]
theorem iH (b len cap p n:Nat) (a:Option Addr) (zs:List Int) (w:World) (h:RdAt w b a len cap zs p) (hn:n<=8):
 Calls Tryz.prog 35 #[PT b 0,VI n] w fun e w'=>e=.returned (VU (mt zs p n))∧RdAt w' b a len cap zs (p+n)∧w.grownBy w' (some b):=by
 have HR:=hid h;have HBd:=hid h.byt.2.1;clear h;go_enter Tryz.func35,Tryz.ntmps35;go_wp2;go_loopw [5,8] (fun vv iv wr=>∃(k:Nat),k<=n∧vv=VU (mt zs p k)∧iv=VI k∧RdAt wr b a len cap zs (p+k)∧w.grownBy wr (some b)) (fun _ iv _=>n-(intOf iv).toNat)
 case atStart=>exact ⟨0,Nat.zero_le _,rfl,rfl,HR.out,aw _ _⟩
 case round=>
  obtain ⟨k,hk,rfl,rfl,hR,hG⟩:=hrel;have HRk:Hid _:=hR;have HGk:Hid _:=hG;clear hR hG;by_cases hkn:k<n
  ·have hb1:=Ex HBd.out p k;have hy:=HBd.out (p+k);have HS:Hid _:=qF zs p k;have HY:Hid (atM zs (p+k)=zs[p+k]?.getD 0):=rfl;rw [<-HY.out] at hy;obtain ⟨x,hx⟩:∃x,mt zs p k=x:=⟨_,rfl⟩;obtain ⟨y,hyy⟩:∃y,atM zs (p+k)=y:=⟨_,rfl⟩;have HYy:Hid _:=hyy;rw [hx,hyy] at HS;rw [hx] at hb1 |-;rw [hyy] at hy;obtain ⟨hb11,hb12⟩:=hb1;obtain ⟨hy1,hy2⟩:=hy;clear hx hyy;have hcs:k=0∨k=1∨k=2∨k=3∨k=4∨k=5∨k=6∨k=7:=by omega
   rcases hcs with rfl | rfl | rfl | rfl | rfl | rfl | rfl | rfl;all_goals
    go_wp2_with fail;refine (iU b len cap _ a zs wr HRk.out).mono ?_;rintro e v1 ⟨rfl,hR1,hG1⟩;have HG1:Hid _:=dY HGk.out hG1;have HR1:Hid _:=hR1;rw [HYy.out];clear hR1 hG1;go_wp2_with fail
   ·refine ⟨⟨1,by omega,?_,rfl,HR1.out,HG1.out⟩,by simp [intOf];omega⟩;have e:=fm 0 1 x y rfl hb11 (by omega) hy1 (by omega) (by omega);rw [Int.mul_one] at e;rw [e,HS.out,show ((256:Int)^0)=1 from rfl,Int.one_mul]
   ·refine ⟨⟨2,by omega,?_,rfl,HR1.out,HG1.out⟩,by simp [intOf];omega⟩;rw [fm 8 256 x y rfl hb11 (by omega) hy1 (by omega) (by omega),HS.out,show ((256:Int)^1)=256 from rfl,Int.mul_comm 256 y]
   ·refine ⟨⟨3,by omega,?_,rfl,HR1.out,HG1.out⟩,by simp [intOf];omega⟩;rw [fm 16 65536 x y rfl hb11 (by omega) hy1 (by omega) (by omega),HS.out,show ((256:Int)^2)=65536 from rfl,Int.mul_comm 65536 y]
   ·refine ⟨⟨4,by omega,?_,rfl,HR1.out,HG1.out⟩,by simp [intOf];omega⟩;rw [fm 24 16777216 x y rfl hb11 (by omega) hy1 (by omega) (by omega),HS.out,show ((256:Int)^3)=16777216 from rfl,Int.mul_comm 16777216 y]
   ·refine ⟨⟨5,by omega,?_,rfl,HR1.out,HG1.out⟩,by simp [intOf];omega⟩;rw [fm 32 4294967296 x y rfl hb11 (by omega) hy1 (by omega) (by omega),HS.out,show ((256:Int)^4)=4294967296 from rfl,Int.mul_comm 4294967296 y]
   ·refine ⟨⟨6,by omega,?_,rfl,HR1.out,HG1.out⟩,by simp [intOf];omega⟩;rw [fm 40 1099511627776 x y rfl hb11 (by omega) hy1 (by omega) (by omega),HS.out,show ((256:Int)^5)=1099511627776 from rfl,Int.mul_comm 1099511627776 y]
   ·refine ⟨⟨7,by omega,?_,rfl,HR1.out,HG1.out⟩,by simp [intOf];omega⟩;rw [fm 48 281474976710656 x y rfl hb11 (by omega) hy1 (by omega) (by omega),HS.out,show ((256:Int)^6)=281474976710656 from rfl,Int.mul_comm 281474976710656 y]
   ·refine ⟨⟨8,by omega,?_,rfl,HR1.out,HG1.out⟩,by simp [intOf];omega⟩;rw [fm 56 72057594037927936 x y rfl hb11 (by omega) hy1 (by omega) (by omega),HS.out,show ((256:Int)^7)=72057594037927936 from rfl,Int.mul_comm 72057594037927936 y]
  ·have hkn':k=n:=by omega
   subst hkn';go_wp2;go_ret;exact ⟨rfl,HRk.out,HGk.out⟩
end
section
attribute [local go_sem ↓] Go.wp_at_zero Go.wp_at_succ
theorem kP (b len cap p:Nat) (a:Option Addr) (zs:List Int) (w:World) (h:RdAt w b a len cap zs p):
 Calls Tryz.prog 32 #[PT b 0] w fun e w'=>(∃x,e=.returned x∧TlbOwn w.heap.size w' x (ae (atM zs p)))∧RdAt w' b a len cap zs (p+1)∧w.grownBy w' (some b):=by
 have hb:=h.byt.2.1 p;have HR:Hid _:=h;have hbl:=h.lt;obtain ⟨y,hy⟩:∃y,atM zs p=y:=⟨_,rfl⟩;have HY:Hid _:=hy;rw [show zs[p]?.getD 0=y from hy] at hb;rw [hy];clear hy h;obtain ⟨hy1,hy2⟩:=hb;obtain ⟨m,hm1,hm2,hm3⟩:∃m:Nat,1+y/4%4=m∧1<=m∧m<=4:=⟨(1+y/4%4).toNat,by omega,by omega,by omega⟩;have a0:=cw w #[VI 0,VI 0,SN] 39;have HA0:Hid _:=a0.1;have n0:=a0.2.2;have l0:=a0.2.1;clear a0;have hcs:y%4=0∨y%4=1∨y%4=2∨y%4=3:=by omega
 go_enter Tryz.func32,Tryz.ntmps32;go_upto_region 1 with fail;generalize w.alloc (Obj.cells #[VI 0,VI 0,SN] 39)=v0 at HA0 n0 l0 |-;go_wp2_with fail;refine (iU b len cap p a zs v0 (HR.out.keep n0)).mono ?_;rintro e v1 ⟨rfl,hR1,hG1⟩;rw [HY.out];have HR1:Hid _:=hR1;have HG1:Hid _:=hG1;have HA1:Hid _:=aB HA0.out hG1 (show w.heap.size≠b by omega);have hs1:=hG1.size;clear hR1 hG1 HA0;go_upto_region 2 with fail;have HE:Hid (∀s:Nat,(2:Int)^(y%4).toNat=s->ae y=⟨s,m,List.replicate (s*m) cH⟩):=by
  intro s hs;unfold ae;rw [hs,hm1];have:(2:Nat)^(y%4).toNat=s:=by
   have h2:((2:Int)^(y%4).toNat)=(((2:Nat)^(y%4).toNat:Nat):Int):=by simp
   omega
  rw [this];rfl
 rcases hcs with hc | hc | hc | hc
 ·have HEs:=hid (HE.out 1 (by rw [hc];rfl));rw [Nat.one_mul] at HEs;have hnb:m<=32:=by omega
  obtain ⟨cs,hcs,hmk⟩:=xV m (by omega);have n2:=(Below.refl v1.heap.size v1).alloc nle (Obj.cells cs 127);have HA2:=ag HA1.out n2 (by omega);have HS2:Hid _:=bq (P:=Tryz.prog) (T:=39) (V:=#[VI 1,VI m,SL v1.heap.size m m]) HA2 (by kernel_rfl) rfl (by simp [Value.oneCell']);have HB2:Hid _:=aT (V:=#[VI 1,VI m,SL v1.heap.size m m]) HA2 rfl;have hcl:cs.toList.length=m*6:=by rw [hcs,eT,List.length_replicate]
  have O2:Hid (OwnC 127 6 (v1.alloc (Obj.cells cs 127)) v1.heap.size v1.heap.size m m (aO (List.replicate m cH))):=by
   have:=OwnC.new 127 6 v1 cs.toList m hcl (by unfold maxLen;omega);rw [Array.toArray_toList,hcs] at this;exact this
  have g2:=aH w.heap.size (#[VI 1,VI m,SL v1.heap.size m m]:Array Value).toList 0 _ _ (aw (v1.alloc (Obj.cells cs 127)) _);have HO3:Hid _:=OwnC.gb O2.out g2 (by omega);have HR3:Hid _:=(HR1.out.keep n2).gb g2 (show b≠w.heap.size by omega) (HR.out.off nle);have HGw:Hid (w.grownBy ((v1.alloc (Obj.cells cs 127)).setCells w.heap.size 0 (#[VI 1,VI m,SL v1.heap.size m m]:Array Value).toList) (some b)):=by
   have hG:=HG1.out;exact ⟨g2.os.trans (n2.os.trans (hG.os.trans n0.os)),g2.tape.trans (n2.tape.trans (hG.tape.trans n0.tape)),g2.output.trans (n2.output.trans (hG.output.trans n0.output)),by have:=g2.size;have:=n2.size;omega,fun k hk hne=>(g2.block k (by have:=n2.size;omega) (by simp;omega)).trans ((n2.block k (by omega)).trans ((hG.block k (by omega) hne).trans (n0.block k hk)))⟩
  clear HA2 hcl hcs;go_wp2_with ((with_reducible refine aL ?_ ?_ HS2.out ?_);(exact rfl);(exact rfl));have e1:=HB2.out;refine dx (b:=w.heap.size) Tryz.results32 rfl (bw (P:=Tryz.prog) e1 Tryz.underlying39 rfl (by kernel_rfl)) rfl ?_;refine ⟨⟨_,rfl,?_⟩,HR3.out,HGw.out⟩;rw [HEs.out];refine ⟨v1.heap.size,m,by simp,?_⟩;simp only [List.length_replicate];exact aJ HO3.out (by omega)
 ·have HEs:=hid (HE.out 2 (by rw [hc];rfl));obtain ⟨n,hn,hnm⟩:∃n:Nat,2*m=n∧(2:Int)*(m:Int)=(n:Int):=⟨2*m,rfl,by omega⟩;have hnb:n<=32:=by omega
  rw [hn] at HEs;clear hn;obtain ⟨cs,hcs,hmk⟩:=xV n (by omega);have n2:=(Below.refl v1.heap.size v1).alloc nle (Obj.cells cs 127);have HA2:=ag HA1.out n2 (by omega);have HS2:Hid _:=bq (P:=Tryz.prog) (T:=39) (V:=#[VI 2,VI m,SL v1.heap.size n n]) HA2 (by kernel_rfl) rfl (by simp [Value.oneCell']);have HB2:Hid _:=aT (V:=#[VI 2,VI m,SL v1.heap.size n n]) HA2 rfl;have hcl:cs.toList.length=n*6:=by rw [hcs,eT,List.length_replicate]
  have O2:Hid (OwnC 127 6 (v1.alloc (Obj.cells cs 127)) v1.heap.size v1.heap.size n n (aO (List.replicate n cH))):=by
   have:=OwnC.new 127 6 v1 cs.toList n hcl (by unfold maxLen;omega);rw [Array.toArray_toList,hcs] at this;exact this
  have g2:=aH w.heap.size (#[VI 2,VI m,SL v1.heap.size n n]:Array Value).toList 0 _ _ (aw (v1.alloc (Obj.cells cs 127)) _);have HO3:Hid _:=OwnC.gb O2.out g2 (by omega);have HR3:Hid _:=(HR1.out.keep n2).gb g2 (show b≠w.heap.size by omega) (HR.out.off nle);have HGw:Hid (w.grownBy ((v1.alloc (Obj.cells cs 127)).setCells w.heap.size 0 (#[VI 2,VI m,SL v1.heap.size n n]:Array Value).toList) (some b)):=by
   have hG:=HG1.out;exact ⟨g2.os.trans (n2.os.trans (hG.os.trans n0.os)),g2.tape.trans (n2.tape.trans (hG.tape.trans n0.tape)),g2.output.trans (n2.output.trans (hG.output.trans n0.output)),by have:=g2.size;have:=n2.size;omega,fun k hk hne=>(g2.block k (by have:=n2.size;omega) (by simp;omega)).trans ((n2.block k (by omega)).trans ((hG.block k (by omega) hne).trans (n0.block k hk)))⟩
  clear HA2 hcl hcs;go_wp2_with ((with_reducible refine aL ?_ ?_ HS2.out ?_);(exact rfl);(exact rfl));have e1:=HB2.out;refine dx (b:=w.heap.size) Tryz.results32 rfl (bw (P:=Tryz.prog) e1 Tryz.underlying39 rfl (by kernel_rfl)) rfl ?_;refine ⟨⟨_,rfl,?_⟩,HR3.out,HGw.out⟩;rw [HEs.out];refine ⟨v1.heap.size,n,by simp,?_⟩;simp only [List.length_replicate];exact aJ HO3.out (by omega)
 ·have HEs:=hid (HE.out 4 (by rw [hc];rfl));obtain ⟨n,hn,hnm⟩:∃n:Nat,4*m=n∧(4:Int)*(m:Int)=(n:Int):=⟨4*m,rfl,by omega⟩;have hnb:n<=32:=by omega
  rw [hn] at HEs;clear hn;obtain ⟨cs,hcs,hmk⟩:=xV n (by omega);have n2:=(Below.refl v1.heap.size v1).alloc nle (Obj.cells cs 127);have HA2:=ag HA1.out n2 (by omega);have HS2:Hid _:=bq (P:=Tryz.prog) (T:=39) (V:=#[VI 4,VI m,SL v1.heap.size n n]) HA2 (by kernel_rfl) rfl (by simp [Value.oneCell']);have HB2:Hid _:=aT (V:=#[VI 4,VI m,SL v1.heap.size n n]) HA2 rfl;have hcl:cs.toList.length=n*6:=by rw [hcs,eT,List.length_replicate]
  have O2:Hid (OwnC 127 6 (v1.alloc (Obj.cells cs 127)) v1.heap.size v1.heap.size n n (aO (List.replicate n cH))):=by
   have:=OwnC.new 127 6 v1 cs.toList n hcl (by unfold maxLen;omega);rw [Array.toArray_toList,hcs] at this;exact this
  have g2:=aH w.heap.size (#[VI 4,VI m,SL v1.heap.size n n]:Array Value).toList 0 _ _ (aw (v1.alloc (Obj.cells cs 127)) _);have HO3:Hid _:=OwnC.gb O2.out g2 (by omega);have HR3:Hid _:=(HR1.out.keep n2).gb g2 (show b≠w.heap.size by omega) (HR.out.off nle);have HGw:Hid (w.grownBy ((v1.alloc (Obj.cells cs 127)).setCells w.heap.size 0 (#[VI 4,VI m,SL v1.heap.size n n]:Array Value).toList) (some b)):=by
   have hG:=HG1.out;exact ⟨g2.os.trans (n2.os.trans (hG.os.trans n0.os)),g2.tape.trans (n2.tape.trans (hG.tape.trans n0.tape)),g2.output.trans (n2.output.trans (hG.output.trans n0.output)),by have:=g2.size;have:=n2.size;omega,fun k hk hne=>(g2.block k (by have:=n2.size;omega) (by simp;omega)).trans ((n2.block k (by omega)).trans ((hG.block k (by omega) hne).trans (n0.block k hk)))⟩
  clear HA2 hcl hcs;go_wp2_with ((with_reducible refine aL ?_ ?_ HS2.out ?_);(exact rfl);(exact rfl));have e1:=HB2.out;refine dx (b:=w.heap.size) Tryz.results32 rfl (bw (P:=Tryz.prog) e1 Tryz.underlying39 rfl (by kernel_rfl)) rfl ?_;refine ⟨⟨_,rfl,?_⟩,HR3.out,HGw.out⟩;rw [HEs.out];refine ⟨v1.heap.size,n,by simp,?_⟩;simp only [List.length_replicate];exact aJ HO3.out (by omega)
 ·have HEs:=hid (HE.out 8 (by rw [hc];rfl));obtain ⟨n,hn,hnm⟩:∃n:Nat,8*m=n∧(8:Int)*(m:Int)=(n:Int):=⟨8*m,rfl,by omega⟩;have hnb:n<=32:=by omega
  rw [hn] at HEs;clear hn;obtain ⟨cs,hcs,hmk⟩:=xV n (by omega);have n2:=(Below.refl v1.heap.size v1).alloc nle (Obj.cells cs 127);have HA2:=ag HA1.out n2 (by omega);have HS2:Hid _:=bq (P:=Tryz.prog) (T:=39) (V:=#[VI 8,VI m,SL v1.heap.size n n]) HA2 (by kernel_rfl) rfl (by simp [Value.oneCell']);have HB2:Hid _:=aT (V:=#[VI 8,VI m,SL v1.heap.size n n]) HA2 rfl;have hcl:cs.toList.length=n*6:=by rw [hcs,eT,List.length_replicate]
  have O2:Hid (OwnC 127 6 (v1.alloc (Obj.cells cs 127)) v1.heap.size v1.heap.size n n (aO (List.replicate n cH))):=by
   have:=OwnC.new 127 6 v1 cs.toList n hcl (by unfold maxLen;omega);rw [Array.toArray_toList,hcs] at this;exact this
  have g2:=aH w.heap.size (#[VI 8,VI m,SL v1.heap.size n n]:Array Value).toList 0 _ _ (aw (v1.alloc (Obj.cells cs 127)) _);have HO3:Hid _:=OwnC.gb O2.out g2 (by omega);have HR3:Hid _:=(HR1.out.keep n2).gb g2 (show b≠w.heap.size by omega) (HR.out.off nle);have HGw:Hid (w.grownBy ((v1.alloc (Obj.cells cs 127)).setCells w.heap.size 0 (#[VI 8,VI m,SL v1.heap.size n n]:Array Value).toList) (some b)):=by
   have hG:=HG1.out;exact ⟨g2.os.trans (n2.os.trans (hG.os.trans n0.os)),g2.tape.trans (n2.tape.trans (hG.tape.trans n0.tape)),g2.output.trans (n2.output.trans (hG.output.trans n0.output)),by have:=g2.size;have:=n2.size;omega,fun k hk hne=>(g2.block k (by have:=n2.size;omega) (by simp;omega)).trans ((n2.block k (by omega)).trans ((hG.block k (by omega) hne).trans (n0.block k hk)))⟩
  clear HA2 hcl hcs;go_wp2_with ((with_reducible refine aL ?_ ?_ HS2.out ?_);(exact rfl);(exact rfl));have e1:=HB2.out;refine dx (b:=w.heap.size) Tryz.results32 rfl (bw (P:=Tryz.prog) e1 Tryz.underlying39 rfl (by kernel_rfl)) rfl ?_;refine ⟨⟨_,rfl,?_⟩,HR3.out,HGw.out⟩;rw [HEs.out];refine ⟨v1.heap.size,n,by simp,?_⟩;simp only [List.length_replicate];exact aJ HO3.out (by omega)
theorem ji (m:Int) (w:World):Calls Tryz.prog 80 #[VI m] w fun e w'=>e=.returned (.bool (decide (0<=m∧m<=2)))∧w'=w:=by
 by_cases h1:0<=m
 ·by_cases h2:m<=2
  ·go_enter Tryz.func80,Tryz.ntmps80;go_wp2;go_ret;exact ⟨aD (by simp [h1,h2]),rfl⟩
  ·go_enter Tryz.func80,Tryz.ntmps80;go_wp2;go_ret;exact ⟨aD (by simp [h2]),rfl⟩
 ·go_enter Tryz.func80,Tryz.ntmps80;go_wp2;go_ret;exact ⟨aD (by simp;omega),rfl⟩
theorem il (x:Int) (w:World) (h0:0<=x) (h1:x<=18446744073709551615):Calls Tryz.prog 81 #[VU x] w fun e w'=>e=.returned (.bool (dh x))∧w'=w:=by
 have HS:Hid (dh x=(x/1152921504606846976 == 0 || x/1152921504606846976 == 8)):=by
  show _=_;unfold dh;rw [show x/1152921504606846976%16=x/1152921504606846976 by omega]
 have hq:0<=x/1152921504606846976∧x/1152921504606846976<=15:=by omega
 rw [HS.out];clear HS;by_cases hz:x/1152921504606846976=0
 ·go_enter Tryz.func81,Tryz.ntmps81;go_wp2;go_ret;exact ⟨aD (by simp [hz]),rfl⟩
 ·have hz':(x/1152921504606846976 == 0)=false:=by simpa using hz
  go_enter Tryz.func81,Tryz.ntmps81;go_wp2;go_ret;exact ⟨aD (by simp [hz]),rfl⟩
theorem CU (b len cap p:Nat) (a:Option Addr) (zs:List Int) (w:World) (h:RdAt w b a len cap zs p):
 Calls Tryz.prog 36 #[PT b 0] w fun e w'=>e=.returned (VU (if dh (cz zs p)=true then cz zs p else 0))∧RdAt w' b a len cap zs (p+8)∧w.grownBy w' (some b):=by
 have hbd:=mH h.byt.2.1 p;have HR:Hid _:=h;clear h;obtain ⟨x,hx⟩:∃x,cz zs p=x:=⟨_,rfl⟩;have HX:Hid (mt zs p 8=x):=hx;rw [hx] at hbd |-;obtain ⟨sc,hsc⟩:∃sc,dh x=sc:=⟨_,rfl⟩;have HSc:Hid _:=hsc;rw [hsc];clear hx hsc;go_enter Tryz.func36,Tryz.ntmps36;go_wp2_with fail;refine (iH b len cap p 8 a zs w HR.out (by omega)).mono ?_;rintro e v1 ⟨rfl,hR1,hG1⟩;rw [HX.out];have HR1:Hid _:=hR1;have HG1:Hid _:=hG1;clear hR1 hG1;go_wp2_with fail;refine (il x v1 hbd.1 hbd.2).mono ?_;rintro e v2 ⟨rfl,hv⟩;rw [hv,HSc.out];clear hv v2;cases sc
 ·go_wp2;go_ret;exact ⟨rfl,HR1.out,HG1.out⟩
 ·go_wp2;go_ret;exact ⟨rfl,HR1.out,HG1.out⟩
theorem Aj {v v1:World} {r:Option Nat} (h:Bw v v1):v.grownBy v1 r:=⟨h.os,h.tape,h.output,h.size,fun k hk _=>h.block k hk⟩
def rgl (zs:List Int) (p t:Nat):List Int:=(0::(List.range t).map fun j=>cz zs (p+8*j))++List.replicate (7-t) 0
theorem Em (zs:List Int) (p t:Nat):(rgl zs p t).length=t+1+(7-t):=by
 simp [rgl];omega
theorem CX (zs:List Int) (p t:Nat) (h:t<7):(rgl zs p t)[t+1]?.getD 0=0:=by
 unfold rgl;rw [List.getElem?_append_right (by simp)];simp;cases h7:7-t with
 | zero=>omega
 | succ n=>simp
theorem En (zs:List Int) (p t:Nat) (h:t<7):(rgl zs p t).set (t+1) (cz zs (p+8*t))=rgl zs p (t+1):=by
 unfold rgl;rw [List.set_append_right _ _ (by simp),iF];obtain ⟨m,hm⟩:∃m,7-t=m+1:=⟨6-t,by omega⟩;rw [hm,show 7-(t+1)=m by omega,List.replicate_succ];simp
theorem FQ:∀u:World,(Instr.makeSlice 28 (VI 8) (VI 8)).run Tryz.prog u=.ok (SL u.heap.size 8 8) (u.alloc (.cells (cF (List.replicate 8 0)).toArray 29)):=by
 intro u
 kernel_rfl
theorem CY (b len cap p:Nat) (a:Option Addr) (zs:List Int) (w:World) (h:RdAt w b a len cap zs p):
 Calls Tryz.prog 37 #[PT b 0] w fun e w'=>(∃g,e=.returned (SL g 8 8)∧OwnC 29 1 w' w.heap.size g 8 8 (cF (0::(List.range 7).map fun j=>cz zs (p+8*j))))∧RdAt w' b a len cap zs (p+56)∧w.grownBy w' (some b):=by
 have HR:Hid _:=h;have hbl:=h.lt;clear h;have hmk:=FQ;have n0:=(Below.refl w.heap.size w).alloc nle (Obj.cells (cF (List.replicate 8 0)).toArray 29);have O0:=hid (OwnC.new 29 1 w (cF (List.replicate 8 0)) 8 rfl (by decide));have HR0:Hid _:=HR.out.keep n0;have G0:Hid _:=Aj (r:=some b) n0;clear n0;go_enter Tryz.func37,Tryz.ntmps37;go_wp2;go_loopw [4] (fun iv wr=>∃(t:Nat),t<=7∧iv=VI ((t+1:Nat):Int)∧RdAt wr b a len cap zs (p+8*t)∧OwnC 29 1 wr w.heap.size w.heap.size 8 8 (cF (rgl zs p t))∧w.grownBy wr (some b)) (fun iv _=>9-(intOf iv).toNat)
 case atStart=>exact ⟨0,Nat.zero_le _,rfl,HR0.out,O0.out,G0.out⟩
 case round=>
  clear O0 HR0 G0;obtain ⟨t,ht,rfl,hR,hO,hG⟩:=hrel;have HRt:Hid _:=hR;have HOt:Hid _:=hO;have HGt:Hid _:=hG;clear hR hO hG;by_cases ht7:t<7
  ·obtain ⟨L,hL⟩:∃L,cz zs (p+8*t)=L:=⟨_,rfl⟩;have HL:Hid (mt zs (p+8*t) 8=L):=hL;have HL2:Hid _:=hL;clear hL;go_wp2_with fail;refine (iH b len cap (p+8*t) 8 a zs wr HRt.out (by omega)).mono ?_;rintro e v1 ⟨rfl,hR1,hG1⟩;rw [HL.out];have O1:=OwnC.gb HOt.out hG1 (show w.heap.size≠b by omega);have c1:=aE O1 (t+1) (VU 0) (by rw [so _ _ (by rw [Em];omega),CX zs p t (by omega)]);have f1:=aQ O1 (t+1);have hsz:=(OwnC.facts O1).2.2.1;have O2:Hid (OwnC 29 1 (v1.setCell ⟨w.heap.size,t+1,none⟩ (VU L)) w.heap.size w.heap.size 8 8 (cF (rgl zs p (t+1)))):=by
    have:=aF O1 (t+1) (VU L);rw [uq,<-HL2.out,En zs p t ht7,HL2.out] at this;exact this
   have g2:=aq (aw v1 (some w.heap.size)) (t+1) (VU L);have HR2:Hid _:=hR1.gb g2 (show b≠w.heap.size by omega) (HR.out.off nle);have HG2:Hid (w.grownBy (v1.setCell ⟨w.heap.size,t+1,none⟩ (VU L)) (some b)):=by
    have h0:=dY HGt.out hG1;exact ⟨g2.os.trans h0.os,g2.tape.trans h0.tape,g2.output.trans h0.output,Nat.le_trans h0.size g2.size,fun k hk hne=>(g2.block k (ltl hk h0.size) (by simp;omega)).trans (h0.block k hk hne)⟩
   clear O1 g2 hR1 hG1;go_wp2_with fail;refine ⟨⟨t+1,by omega,by go_num,HR2.out,O2.out,HG2.out⟩,?_⟩;simp [intOf];omega
  ·have ht':t=7:=by omega
   subst ht';go_wp2;go_ret;exact ⟨⟨_,rfl,HOt.out⟩,HRt.out,HGt.out⟩
end
section
attribute [local go_sem ↓] Go.wp_at_zero Go.wp_at_succ
abbrev fD:Array Value:=#[SN,SN,VU 0,VI 0,.bool false,.bool false,VU 0,VU 0,VU 0,VI 0,VI 0,VU 0,VI 0,VI 0,SN,VI 0,VI 0,SN,VI 0,VI 0,SN,SN]
structure DecIn (w v:World) (hb:Nat) (p:PtrM) (h:HartM):Prop where
 box:v.heap[hb]?=some (.cells (ak p h) 43 (0,0))
 res:v.heap[w.heap.size]?=some (.cells fD 46 (0,0))
 low:w.heap.size<hb
 mem:v.ownsRow (hb+1) 5 1 (.slice p.am h.mem.length p.cm) h.mem.length (ex h.mem)
 ks:∃u:World,u.heap.size=hb∧KRows (w.heap.size+1) u p h.k∧Below hb u v
 below:Bw w v
theorem DecIn.lt {w v:World} {hb:Nat} {p:PtrM} {h:HartM} (d:DecIn w v hb p h):hb<v.heap.size:=(hpl d.box)
theorem DecIn.keep {w v v':World} {hb:Nat} {p:PtrM} {h:HartM} (d:DecIn w v hb p h) (hn:Bw v v'):DecIn w v' hb p h:=by
 obtain ⟨u,h1,h2,h3⟩:=d.ks;have:=d.lt;have:=d.low;exact ⟨ag d.box hn d.lt,ag d.res hn (by omega),d.low,aj d.mem hn,⟨u,h1,h2,h3.trans (hn.mono (by omega))⟩,bst d.below hn⟩
theorem DecIn.cell {w v:World} {hb:Nat} {p:PtrM} {h h':HartM} (d:DecIn w v hb p h) (i:Nat) (x:Value) (hA:(ak p h).setIfInBounds i x=ak p h') (hm:h'.mem=h.mem) (hk:h'.k=h.k):DecIn w (v.setCell (AD hb i) x) hb p h':=by
 obtain ⟨u,h1,h2,h3⟩:=d.ks;have hh:=d.low;refine ⟨?_,eF d.res i x (by omega),d.low,?_,⟨u,h1,by rw [hk];exact h2,h3.setCell nle _⟩,d.below.setCell (p:=(AD hb i)) (by show w.heap.size<=hb;omega) _⟩
 ·rw [<-hA];exact co d.box i x
 ·rw [hm];exact dV d.mem d.box (by decide) (aq (aw v (some hb)) i x)
theorem DecIn.put {w v v5:World} {hb g c:Nat} {p:PtrM} {h:HartM} {m:List Int} (d:DecIn w v hb p h) (hn:Below (hb+1) v v5) (ho:v5.ownsRow (hb+1) 5 1 (SL g m.length c) m.length (ex m)):
 DecIn w (v5.setCell (AD hb 0) (SL g m.length c)) hb ⟨some (AD g 0),c,p.ar,p.cr,p.a1,p.c1,p.a2,p.c2,p.a3,p.c3⟩ (eD h m):=by
 obtain ⟨u,h1,h2,h3⟩:=d.ks;have hh:=d.low;have hl:=d.lt;have b5:=(hn.block _ (by omega)).trans d.box;refine ⟨?_,eF ((hn.block _ (by omega)).trans d.res) 0 _ (by omega),d.low,?_,⟨u,h1,h2,(h3.trans (hn.mono (by omega))).setCell nle _⟩,(d.below.trans (hn.mono (by omega))).setCell (p:=(AD hb 0)) (by show w.heap.size<=hb;omega) _⟩
 ·exact co b5 0 _
 ·exact dV ho b5 (by decide) (aq (aw v5 (some hb)) 0 _)
theorem xn {zs:List Int} (h:∀i:Nat,0<=zs[i]?.getD 0∧zs[i]?.getD 0<=255) (i:Nat):0<=cz zs i∧cz zs i<=18446744073709551615:=by
 unfold cz;have:=lX ((List.range 8).map fun k=>atM zs (i+k)) 8 (fun z hz=>by
  simp only [List.mem_map] at hz;obtain ⟨j,_,rfl⟩:=hz;exact qu h _) (by simp)
 omega
theorem xq (a b:List Int):ex (a++b)=ex a++ex b:=by simp [ex]
theorem AU (a:Option Addr) (len cap:Nat) (zs:List Int) (w:World) (hB:Byt w a len zs) (hl:len<=1048576) (R:Ending->World->Prop)
 (H:∀(v:World) (hb size n:Nat) (p:PtrM) (u5 u15 u16 u17 u18 u19 u20 u21 u22 u23 u24 u25 u26 u27 u28 u29 u30 u31 u32 u33 u34 u35 u36 u37 u38 u39 u40 u41 u42 u43 u44 u45 u46 u47 u48 u49 u50 u51 u52 u53 u54 u55 u56 u57 u58 u59 u60 u61 u62 u63 u64 u65 u66 u67 u68 u69 u70 u71 u72 u73 u74 u75 u76 u77 u78 u79 u80 u81 u82 u83 u84 u85:Value),DecIn w v hb p ⟨List.replicate size 0,[],cz zs 7,bU (atM zs 4),atM zs 4/4%2 == 1,atM zs 4/8%2 == 1,if dh (cz zs 23)=true then cz zs 23 else 0,cz zs 15/4*4,0,bU (atM zs 4),0,0,⟨ae (atM zs 0),ae (atM zs 1),ae (atM zs 2)⟩⟩->p.ar=none->p.cr=0->size=64*(1+(atM zs 3%64).toNat)->n=jJ zs->
  ∀K:Act->World->Prop,(∀a w,(dl 15 (eS Tryz.f15)).wp Tryz.prog (bodyPost Tryz.prog Tryz.f15 R) a w->K a w)->(el (dl 14 (eS Tryz.f15))).wp Tryz.prog (Exit.then K (bodyPost Tryz.prog Tryz.f15 R)) ⟨#[.slice a len cap,undef,PT w.heap.size 0,PT hb 0,VI (size:Nat),u5,VI (n:Nat),undef,undef,undef,undef,undef,undef,undef,undef,u15,u16,u17,u18,u19,u20,u21,u22,u23,u24,u25,u26,u27,u28,u29,u30,u31,u32,u33,u34,u35,u36,u37,u38,u39,u40,u41,u42,u43,u44,u45,u46,u47,u48,u49,u50,u51,u52,u53,u54,u55,u56,u57,u58,u59,u60,u61,u62,u63,u64,u65,u66,u67,u68,u69,u70,u71,u72,u73,u74,u75,u76,u77,u78,u79,u80,u81,u82,u83,u84,u85,undef,undef,undef,undef,undef,undef,undef,undef,undef,undef,undef,undef,undef,undef,undef,undef,undef,undef,undef,undef,undef,undef,undef,undef,undef,undef,undef,undef,undef,undef,undef,undef,undef,undef,undef,undef,undef,undef,undef,undef,undef,undef,undef,undef,undef,undef,undef,undef,undef,undef,undef,undef,undef,undef,undef,undef,undef,undef,undef,undef,undef,undef,undef,undef,undef,undef,undef,undef,undef,undef,undef,undef,undef,undef,undef,undef,undef,undef,undef,undef],[]⟩ v):
  Calls Tryz.prog 15 #[.slice a len cap] w R:=by
 have HH:Hid _:=H;clear H;have HB:Hid _:=hB;have HAt:=hid fun (i:Nat) (u:World) (hi:i<=1073741824) (hu:Bw w u)=>pZ a len cap zs i u (Byt.keep HB.out hu) hl (by omega);have HLg:=hid fun (i:Nat) (u:World) (hi:i<=1073741824) (hu:Bw w u)=>sC a len cap zs i u (Byt.keep HB.out hu) hl hi;have HAb:=hid fun i=>qu hB.2.1 i;clear hB;go_enter Tryz.func15,Tryz.ntmps15;go_upto_region 1 with fail;obtain ⟨v0,Ev0,F⟩:=ax1 w fD 46;rw [Ev0.out];clear Ev0;obtain ⟨hr,l0,n0⟩:=F;have HR:Hid _:=hr;clear hr;obtain ⟨y0,e0⟩:∃y,atM zs 0=y:=⟨_,rfl⟩;obtain ⟨y1,e1⟩:∃y,atM zs 1=y:=⟨_,rfl⟩;obtain ⟨y2,e2⟩:∃y,atM zs 2=y:=⟨_,rfl⟩;have q0:=HAb.out 0;have q1:=HAb.out 1;have q2:=HAb.out 2;rw [e0] at q0;rw [e1] at q1;rw [e2] at q2;have E0:Hid _:=e0;have E1:Hid _:=e1;have E2:Hid _:=e2;clear e0 e1 e2;go_wp2_with fail;refine (HAt.out 0 v0 (by omega) n0).mono ?_;rintro e v' ⟨rfl,rfl⟩;rw [E0.out];go_wp2_with fail;refine (mf y0 v' q0).mono ?_;rintro e v1 ⟨⟨x1,rfl,hx1⟩,n1⟩;obtain ⟨g1,c1,rfl,o1⟩:=hx1;have m1:=bst n0 n1;go_wp2_with fail;refine (HAt.out 1 v1 (by omega) m1).mono ?_;rintro e v2' ⟨rfl,rfl⟩;rw [E1.out];go_wp2_with fail;refine (mf y1 v2' q1).mono ?_;rintro e v2 ⟨⟨x2,rfl,hx2⟩,n2⟩;obtain ⟨g2,c2,rfl,o2⟩:=hx2;have m2:=bst m1 n2;go_wp2_with fail;refine (HAt.out 2 v2 (by omega) m2).mono ?_;rintro e v3' ⟨rfl,rfl⟩;rw [E2.out];go_wp2_with fail;refine (mf y2 v3' q2).mono ?_;rintro e v3 ⟨⟨x3,rfl,hx3⟩,n3⟩;obtain ⟨g3,c3,rfl,o3⟩:=hx3;have m3:=bst m2 n3;have hs1:=n1.size;have hs2:=n2.size;have hs3:=n3.size;have KR:Hid (KRows (w.heap.size+1) v3 ⟨none,0,none,0,some (AD g1 0),c1,some (AD g2 0),c2,some (AD g3 0),c3⟩ (⟨ae y0,ae y1,ae y2⟩:KM)):=⟨aJ (aj (aj o1 n2) n3) (by omega),aJ (aj o2 n3) (by omega),aJ o3 (by omega)⟩;have a4:=cw v3 fN 43;have hH4:=eI ⟨none,0,none,0,some (AD g1 0),c1,some (AD g2 0),c2,some (AD g3 0),c3⟩ ⟨[],[],0,0,false,false,0,0,0,0,0,0,(⟨ae y0,ae y1,ae y2⟩:KM)⟩;have HS4:Hid _:=bq (P:=Tryz.prog) (T:=43) (V:=ak ⟨none,0,none,0,some (AD g1 0),c1,some (AD g2 0),c2,some (AD g3 0),c3⟩ ⟨[],[],0,0,false,false,0,0,0,0,0,0,(⟨ae y0,ae y1,ae y2⟩:KM)⟩) a4.1 (by rw [hH4];exact eM) (by rw [hH4,eY]) (fT _ _);have b4:=aS (Nat.le_refl v3.heap.size) (ak ⟨none,0,none,0,some (AD g1 0),c1,some (AD g2 0),c2,some (AD g3 0),c3⟩ ⟨[],[],0,0,false,false,0,0,0,0,0,0,(⟨ae y0,ae y1,ae y2⟩:KM)⟩).toList 0 _ a4.2.2;have HR4:Hid _:=ag HR.out (bst (bst (bst n1 n2) n3) b4) (by omega);have D4:Hid (DecIn w ((v3.alloc (Obj.cells fN 43)).setCells v3.heap.size 0 (ak ⟨none,0,none,0,some (AD g1 0),c1,some (AD g2 0),c2,some (AD g3 0),c3⟩ ⟨[],[],0,0,false,false,0,0,0,0,0,0,(⟨ae y0,ae y1,ae y2⟩:KM)⟩).toList) v3.heap.size ⟨none,0,none,0,some (AD g1 0),c1,some (AD g2 0),c2,some (AD g3 0),c3⟩ ⟨[],[],0,0,false,false,0,0,0,0,0,0,(⟨ae y0,ae y1,ae y2⟩:KM)⟩):=
  ⟨aT a4.1 (by rw [hH4,eY]),HR4.out,by omega,World.ownsRow_nil _ _ _ _,⟨v3,rfl,KR.out,b4⟩,bst m3 b4⟩
 clear o1 o2 o3 n1 n2 n3 m1 m2 m3 hs1 hs2 hs3 KR HR4 HR n0 a4 b4 hH4;go_upto_region 2 with ((with_reducible refine aL ?_ ?_ HS4.out ?_);(exact rfl);(exact rfl));generalize (v3.alloc (Obj.cells fN 43)).setCells v3.heap.size 0 (ak ⟨none,0,none,0,some (AD g1 0),c1,some (AD g2 0),c2,some (AD g3 0),c3⟩ ⟨[],[],0,0,false,false,0,0,0,0,0,0,(⟨ae y0,ae y1,ae y2⟩:KM)⟩).toList=v4 at D4 |-;generalize v3.heap.size=hb at D4 |-;clear HS4;obtain ⟨y3,e3⟩:∃y,atM zs 3=y:=⟨_,rfl⟩;have q3:=HAb.out 3;rw [e3] at q3;have E3:Hid _:=e3;clear e3;obtain ⟨q31,q32⟩:=q3;obtain ⟨size,hsz,hs1,hs2⟩:∃size:Nat,64*(1+y3%64)=size∧64<=size∧size<=4096:=⟨(64*(1+y3%64)).toNat,by omega,by omega,by omega⟩;have HSz:Hid (size=64*(1+(atM zs 3%64).toNat)):=by show _=_;rw [E3.out];omega
 have nB4:=D4.out.below;go_upto_region 3 with (go_at_call 41;refine (HAt.out 3 _ (by omega) nB4).mono ?_;rintro e v' ⟨rfl,rfl⟩;rw [E3.out]);clear nB4 q0 q1 q2 q31 q32 l0;go_wp2;go_loopw [5] (fun iv wr=>∃(i:Nat) (ra:Option Addr) (rc:Nat),i<=size∧iv=VI i∧DecIn w wr hb ⟨ra,rc,none,0,some (AD g1 0),c1,some (AD g2 0),c2,some (AD g3 0),c3⟩ ⟨List.replicate i 0,[],0,0,false,false,0,0,0,0,0,0,(⟨ae y0,ae y1,ae y2⟩:KM)⟩) (fun iv _=>size-(intOf iv).toNat)
 case atStart=>exact ⟨0,none,0,Nat.zero_le _,rfl,D4.out⟩
 case round=>
  clear D4;obtain ⟨i,ra,rc,hi,rfl,hD⟩:=hrel;have D:Hid _:=hD;have hlt:=hD.lt;have hlo:=hD.low;have c0:=ab hD.box 0 (show (ak ⟨ra,rc,none,0,some (AD g1 0),c1,some (AD g2 0),c2,some (AD g3 0),c3⟩ ⟨List.replicate i 0,[],0,0,false,false,0,0,0,0,0,0,(⟨ae y0,ae y1,ae y2⟩:KM)⟩)[0]?=some (.slice ra (List.replicate i (0:Int)).length rc) from rfl);rw [List.length_replicate] at c0;clear hD;by_cases hin:i<size
  ·have n4:=(Below.refl wr.heap.size wr).alloc nle (Obj.cells #[.int .u8 0] 5);have D4:Hid _:=D.out.keep n4;have HO4:Hid _:=D4.out.mem;simp only [List.length_replicate] at HO4;have HW4:=hid ((OwnC.new 5 1 wr (ex [0]) 1 (by rfl) (by decide)).row);have l4:wr.heap.size<(wr.alloc (Obj.cells #[.int .u8 0] 5)).heap.size:=by simp
   go_wp2_with (at_builtin;refine mw _ rfl (.tmp 37) (.tmp 38) 22 rfl 5 Tryz.underlying22 (.int .u8 0) 1 1 Tryz.infoB rfl (by decide) (hb+1) i _ (ex (List.replicate i 0)) rfl HO4.out wr.heap.size 0 1 1 (ex [0]) rfl (by omega) HW4.out (wL _) (by omega) (by omega) (by omega) (hb+1) _ brf nle ?_;intro g5 cp5 v5 o5 n5;have HO5:Hid _:=o5;have N5:Hid _:=n5;have B5:=(n5.block hb (by omega)).trans D4.out.box;have l5:=n5.size;have c5:=ab B5 0 (show (ak ⟨ra,rc,none,0,some (AD g1 0),c1,some (AD g2 0),c2,some (AD g3 0),c3⟩ ⟨List.replicate i 0,[],0,0,false,false,0,0,0,0,0,0,(⟨ae y0,ae y1,ae y2⟩:KM)⟩)[0]?=some (.slice ra (List.replicate i (0:Int)).length rc) from rfl);have f5:=az B5 0;clear o5 n5 HO4 HW4 B5 c0);have D6:=DecIn.put (m:=List.replicate (i+1) 0) D4.out N5.out (by rw [List.length_replicate,List.replicate_succ',xq];exact HO5.out);rw [List.length_replicate] at D6;refine ⟨⟨i+1,some (AD g5 0),cp5,by omega,by go_num,D6⟩,?_⟩;simp [intOf];omega
  ·have hin':i=size:=by omega
   subst hin';have hdec:decide ((i:Int)<(i:Int))=false:=by simp
   go_upto_region 7 with fail;clear c0 hlo hlt hin hdec;obtain ⟨y4,e4⟩:∃y,atM zs 4=y:=⟨_,rfl⟩;have q4:=HAb.out 4;rw [e4] at q4;obtain ⟨q41,q42⟩:=q4;have E4:Hid _:=e4;clear e4;obtain ⟨y5,e5⟩:∃y,atM zs 5=y:=⟨_,rfl⟩;have q5:=HAb.out 5;rw [e5] at q5;obtain ⟨q51,q52⟩:=q5;have E5:Hid _:=e5;clear e5;obtain ⟨y6,e6⟩:∃y,atM zs 6=y:=⟨_,rfl⟩;have q6:=HAb.out 6;rw [e6] at q6;obtain ⟨q61,q62⟩:=q6;have E6:Hid _:=e6;clear e6;have kk3:=ab D.out.box 3 (show (ak ⟨ra,rc,none,0,some (AD g1 0),c1,some (AD g2 0),c2,some (AD g3 0),c3⟩ ⟨List.replicate i 0,[],0,0,false,false,0,0,0,0,0,0,(⟨ae y0,ae y1,ae y2⟩:KM)⟩)[3]?=some (VI 0) from rfl);have ff3:=az D.out.box 3;have hbl:=D.out.below;have hltv:=D.out.lt;go_upto_region 8 with (go_at_call 41;refine (HAt.out 4 _ (by omega) hbl).mono ?_;rintro e v' ⟨rfl,hv'⟩;rw [hv'];clear hv' v';rw [E4.out]);have D':Hid (DecIn w (wr.setCell (AD hb 3) (VI (y4%4))) hb ⟨ra,rc,none,0,some (AD g1 0),c1,some (AD g2 0),c2,some (AD g3 0),c3⟩ ⟨List.replicate i 0,[],0,(y4%4),false,false,0,0,0,0,0,0,(⟨ae y0,ae y1,ae y2⟩:KM)⟩):=D.out.cell 3 (VI (y4%4)) rfl rfl rfl;clear kk3 ff3 hbl hltv;generalize wr.setCell (AD hb 3) (VI (y4%4))=w7 at D' |-;clear D;have D:=D';clear D';obtain ⟨md0,hmd0⟩:∃m,y4%4=m:=⟨_,rfl⟩;have HMd0:Hid _:=hmd0;rw [hmd0] at D;clear hmd0;have kk3:=ab D.out.box 3 (show (ak ⟨ra,rc,none,0,some (AD g1 0),c1,some (AD g2 0),c2,some (AD g3 0),c3⟩ ⟨List.replicate i 0,[],0,md0,false,false,0,0,0,0,0,0,(⟨ae y0,ae y1,ae y2⟩:KM)⟩)[3]?=some (VI md0) from rfl);have ff3:=az D.out.box 3;have hltv:=D.out.lt;by_cases hm3:md0=3
   focus
    subst hm3;go_upto_region 10 with fail;have HMd:Hid (bU y4=1):=by show _=_;unfold bU;rw [HMd0.out];rfl
    have D':Hid (DecIn w (w7.setCell (AD hb 3) (VI 1)) hb ⟨ra,rc,none,0,some (AD g1 0),c1,some (AD g2 0),c2,some (AD g3 0),c3⟩ ⟨List.replicate i 0,[],0,1,false,false,0,0,0,0,0,0,(⟨ae y0,ae y1,ae y2⟩:KM)⟩):=D.out.cell 3 (VI 1) rfl rfl rfl;clear kk3 ff3 hltv HMd0;generalize w7.setCell (AD hb 3) (VI 1)=w9 at D' |-;clear D;have D:=D';clear D';obtain ⟨md,hmd⟩:∃m:Int,1=m:=⟨_,rfl⟩;rw [hmd] at D HMd;clear hmd;have kk3:=ab D.out.box 3 (show (ak ⟨ra,rc,none,0,some (AD g1 0),c1,some (AD g2 0),c2,some (AD g3 0),c3⟩ ⟨List.replicate i 0,[],0,md,false,false,0,0,0,0,0,0,(⟨ae y0,ae y1,ae y2⟩:KM)⟩)[3]?=some (VI md) from rfl);have ff3:=az D.out.box 3;have kk9:=ab D.out.box 9 (show (ak ⟨ra,rc,none,0,some (AD g1 0),c1,some (AD g2 0),c2,some (AD g3 0),c3⟩ ⟨List.replicate i 0,[],0,md,false,false,0,0,0,0,0,0,(⟨ae y0,ae y1,ae y2⟩:KM)⟩)[9]?=some (VI 0) from rfl);have ff9:=az D.out.box 9;have hltv:=D.out.lt;go_upto_region 11 with fail;have D':Hid (DecIn w (w9.setCell (AD hb 9) (VI md)) hb ⟨ra,rc,none,0,some (AD g1 0),c1,some (AD g2 0),c2,some (AD g3 0),c3⟩ ⟨List.replicate i 0,[],0,md,false,false,0,0,0,md,0,0,(⟨ae y0,ae y1,ae y2⟩:KM)⟩):=D.out.cell 9 (VI md) rfl rfl rfl;clear kk3 ff3 kk9 ff9 hltv;generalize w9.setCell (AD hb 9) (VI md)=w10 at D' |-
   rotate_left
   focus
    go_upto_region 10 with fail;have HMd:Hid (bU y4=md0):=by show _=_;unfold bU;rw [HMd0.out,if_neg hm3]
    clear kk3 ff3 hltv HMd0 hm3;obtain ⟨md,hmd⟩:∃m:Int,md0=m:=⟨_,rfl⟩;rw [hmd] at D HMd;clear hmd;have kk3:=ab D.out.box 3 (show (ak ⟨ra,rc,none,0,some (AD g1 0),c1,some (AD g2 0),c2,some (AD g3 0),c3⟩ ⟨List.replicate i 0,[],0,md,false,false,0,0,0,0,0,0,(⟨ae y0,ae y1,ae y2⟩:KM)⟩)[3]?=some (VI md) from rfl);have ff3:=az D.out.box 3;have kk9:=ab D.out.box 9 (show (ak ⟨ra,rc,none,0,some (AD g1 0),c1,some (AD g2 0),c2,some (AD g3 0),c3⟩ ⟨List.replicate i 0,[],0,md,false,false,0,0,0,0,0,0,(⟨ae y0,ae y1,ae y2⟩:KM)⟩)[9]?=some (VI 0) from rfl);have ff9:=az D.out.box 9;have hltv:=D.out.lt;go_upto_region 11 with fail;have D':Hid (DecIn w (w7.setCell (AD hb 9) (VI md)) hb ⟨ra,rc,none,0,some (AD g1 0),c1,some (AD g2 0),c2,some (AD g3 0),c3⟩ ⟨List.replicate i 0,[],0,md,false,false,0,0,0,md,0,0,(⟨ae y0,ae y1,ae y2⟩:KM)⟩):=D.out.cell 9 (VI md) rfl rfl rfl;clear kk3 ff3 kk9 ff9 hltv;generalize w7.setCell (AD hb 9) (VI md)=w10 at D' |-
   rotate_left
   all_goals
    clear D;have D:=D';clear D';have kk4:=ab D.out.box 4 (show (ak ⟨ra,rc,none,0,some (AD g1 0),c1,some (AD g2 0),c2,some (AD g3 0),c3⟩ ⟨List.replicate i 0,[],0,md,false,false,0,0,0,md,0,0,(⟨ae y0,ae y1,ae y2⟩:KM)⟩)[4]?=some (.bool false) from rfl);have ff4:=az D.out.box 4;have hbl:=D.out.below;have hltv:=D.out.lt;go_upto_region 12 with (go_at_call 41;refine (HAt.out 4 _ (by omega) hbl).mono ?_;rintro e v' ⟨rfl,hv'⟩;rw [hv'];clear hv' v';rw [E4.out]);have D':Hid (DecIn w (w10.setCell (AD hb 4) (.bool (y4/4%2 == 1))) hb ⟨ra,rc,none,0,some (AD g1 0),c1,some (AD g2 0),c2,some (AD g3 0),c3⟩ ⟨List.replicate i 0,[],0,md,(y4/4%2 == 1),false,0,0,0,md,0,0,(⟨ae y0,ae y1,ae y2⟩:KM)⟩):=D.out.cell 4 (.bool (y4/4%2 == 1)) rfl rfl rfl;clear kk4 ff4 hbl hltv;generalize w10.setCell (AD hb 4) (.bool (y4/4%2 == 1))=w11 at D' |-;clear D;have D:=D';clear D';have kk5:=ab D.out.box 5 (show (ak ⟨ra,rc,none,0,some (AD g1 0),c1,some (AD g2 0),c2,some (AD g3 0),c3⟩ ⟨List.replicate i 0,[],0,md,(y4/4%2 == 1),false,0,0,0,md,0,0,(⟨ae y0,ae y1,ae y2⟩:KM)⟩)[5]?=some (.bool false) from rfl);have ff5:=az D.out.box 5;have hbl:=D.out.below;have hltv:=D.out.lt;go_upto_region 13 with (go_at_call 41;refine (HAt.out 4 _ (by omega) hbl).mono ?_;rintro e v' ⟨rfl,hv'⟩;rw [hv'];clear hv' v';rw [E4.out]);have D':Hid (DecIn w (w11.setCell (AD hb 5) (.bool (y4/8%2 == 1))) hb ⟨ra,rc,none,0,some (AD g1 0),c1,some (AD g2 0),c2,some (AD g3 0),c3⟩ ⟨List.replicate i 0,[],0,md,(y4/4%2 == 1),(y4/8%2 == 1),0,0,0,md,0,0,(⟨ae y0,ae y1,ae y2⟩:KM)⟩):=D.out.cell 5 (.bool (y4/8%2 == 1)) rfl rfl rfl;clear kk5 ff5 hbl hltv;generalize w11.setCell (AD hb 5) (.bool (y4/8%2 == 1))=w12 at D' |-;clear D;have D:=D';clear D';have hbl:=D.out.below;go_wp2_with fail;refine (HAt.out 5 w12 (by omega) hbl).mono ?_;rintro e v' ⟨rfl,hv'⟩;rw [hv',E5.out];clear hv' v';go_wp2_with fail;refine (HAt.out 6 w12 (by omega) hbl).mono ?_;rintro e v' ⟨rfl,hv'⟩;rw [hv',E6.out];clear hv' v';go_upto_region 14 with fail;clear hbl;by_cases hn2:20000<y5+256*y6
    focus
     have HN:Hid ((20000:Nat)=jJ zs):=by show _=_;unfold jJ;rw [E5.out,E6.out];omega
     obtain ⟨nn,hnn⟩:∃nn:Nat,(20000:Int)=nn:=⟨20000,rfl⟩
    rotate_left
    focus
     have HN:Hid (((y5+256*y6).toNat:Nat)=jJ zs):=by show _=_;unfold jJ;rw [E5.out,E6.out];omega
     obtain ⟨nn,hnn⟩:∃nn:Nat,y5+256*y6=nn:=⟨(y5+256*y6).toNat,by omega⟩
    rotate_left
    all_goals
     have HN2:Hid ((nn:Nat)=jJ zs):=by show _=_;rw [<-HN.out];omega
     go_upto_region 16 with fail;clear hn2;try rw [hnn]
     clear hnn HN;obtain ⟨l7,e7⟩:∃y,cz zs 7=y:=⟨_,rfl⟩;obtain ⟨l15,e15⟩:∃y,cz zs 15=y:=⟨_,rfl⟩;obtain ⟨l23,e23⟩:∃y,cz zs 23=y:=⟨_,rfl⟩;have E7:Hid _:=e7;have E15:Hid _:=e15;have E23:Hid _:=e23;clear e7 e15 e23;have hl15:0<=l15∧l15<=18446744073709551615:=by rw [<-E15.out];exact xn HB.out.2.1 15
     have HL23:Hid (inU l23):=by show inU _;rw [<-E23.out];exact xn HB.out.2.1 23
     obtain ⟨hl151,hl152⟩:=hl15;go_wp2_with fail;refine (HLg.out 7 w12 (by omega) D.out.below).mono ?_;rintro e x16 ⟨rfl,m16⟩;rw [E7.out];have D':Hid _:=D.out.keep m16;clear D m16;have D:=D';clear D';have kk2:=ab D.out.box 2 (show (ak ⟨ra,rc,none,0,some (AD g1 0),c1,some (AD g2 0),c2,some (AD g3 0),c3⟩ ⟨List.replicate i 0,[],0,md,(y4/4%2 == 1),(y4/8%2 == 1),0,0,0,md,0,0,(⟨ae y0,ae y1,ae y2⟩:KM)⟩)[2]?=some (VU 0) from rfl);have ff2:=az D.out.box 2;have hltv:=D.out.lt;go_upto_region 17 with fail;have D':Hid (DecIn w (x16.setCell (AD hb 2) (VU l7)) hb ⟨ra,rc,none,0,some (AD g1 0),c1,some (AD g2 0),c2,some (AD g3 0),c3⟩ ⟨List.replicate i 0,[],l7,md,(y4/4%2 == 1),(y4/8%2 == 1),0,0,0,md,0,0,(⟨ae y0,ae y1,ae y2⟩:KM)⟩):=D.out.cell 2 (VU l7) rfl rfl rfl;clear kk2 ff2 hltv;generalize x16.setCell (AD hb 2) (VU l7)=w16 at D' |-;clear D;have D:=D';clear D';go_wp2_with fail;refine (HLg.out 15 w16 (by omega) D.out.below).mono ?_;rintro e x17 ⟨rfl,m17⟩;rw [E15.out];have D':Hid _:=D.out.keep m17;clear D m17;have D:=D';clear D';have kk7:=ab D.out.box 7 (show (ak ⟨ra,rc,none,0,some (AD g1 0),c1,some (AD g2 0),c2,some (AD g3 0),c3⟩ ⟨List.replicate i 0,[],l7,md,(y4/4%2 == 1),(y4/8%2 == 1),0,0,0,md,0,0,(⟨ae y0,ae y1,ae y2⟩:KM)⟩)[7]?=some (VU 0) from rfl);have ff7:=az D.out.box 7;have hltv:=D.out.lt;go_upto_region 18 with fail;have D':Hid (DecIn w (x17.setCell (AD hb 7) (VU (l15/4*4))) hb ⟨ra,rc,none,0,some (AD g1 0),c1,some (AD g2 0),c2,some (AD g3 0),c3⟩ ⟨List.replicate i 0,[],l7,md,(y4/4%2 == 1),(y4/8%2 == 1),0,(l15/4*4),0,md,0,0,(⟨ae y0,ae y1,ae y2⟩:KM)⟩):=D.out.cell 7 (VU (l15/4*4)) rfl rfl rfl;clear kk7 ff7 hltv;generalize x17.setCell (AD hb 7) (VU (l15/4*4))=w17 at D' |-;clear D;have D:=D';clear D';go_wp2_with fail;refine (HLg.out 23 w17 (by omega) D.out.below).mono ?_;rintro e x18 ⟨rfl,m18⟩;rw [E23.out];have D':Hid _:=D.out.keep m18;clear D m18;have D:=D';clear D';go_wp2_with fail;refine (jl l23 x18 HL23.out.1 HL23.out.2).mono ?_;rintro e x19 ⟨rfl,m19⟩;have D':Hid _:=D.out.keep m19;clear D m19;have D:=D';clear D';cases hsc:dh l23
     ·have HSc:Hid ((if dh l23=true then l23 else 0)=0):=by show _=_;rw [hsc];rfl
      clear hsc;go_upto_region 20 with fail;refine HH.out _ hb i nn ⟨ra,rc,none,0,some (AD g1 0),c1,some (AD g2 0),c2,some (AD g3 0),c3⟩ _ _ _ _ _ _ _ _ _ _ _ _ _ _ _ _ _ _ _ _ _ _ _ _ _ _ _ _ _ _ _ _ _ _ _ _ _ _ _ _ _ _ _ _ _ _ _ _ _ _ _ _ _ _ _ _ _ _ _ _ _ _ _ _ _ _ _ _ _ _ _ _ ?_ rfl rfl HSz.out HN2.out _ (by assumption);rw [E4.out,E7.out,E15.out,E23.out,E0.out,E1.out,E2.out,HMd.out,HSc.out];exact D.out
     ·have HSc:Hid ((if dh l23=true then l23 else 0)=l23):=by show _=_;rw [hsc];rfl
      clear hsc;go_upto_region 19 with fail;go_wp2_with fail;refine (HLg.out 23 x19 (by omega) D.out.below).mono ?_;rintro e x20 ⟨rfl,m20⟩;rw [E23.out];have D':Hid _:=D.out.keep m20;clear D m20;have D:=D';clear D';have kk6:=ab D.out.box 6 (show (ak ⟨ra,rc,none,0,some (AD g1 0),c1,some (AD g2 0),c2,some (AD g3 0),c3⟩ ⟨List.replicate i 0,[],l7,md,(y4/4%2 == 1),(y4/8%2 == 1),0,(l15/4*4),0,md,0,0,(⟨ae y0,ae y1,ae y2⟩:KM)⟩)[6]?=some (VU 0) from rfl);have ff6:=az D.out.box 6;have hltv:=D.out.lt;go_upto_region 20 with fail;have D':Hid (DecIn w (x20.setCell (AD hb 6) (VU l23)) hb ⟨ra,rc,none,0,some (AD g1 0),c1,some (AD g2 0),c2,some (AD g3 0),c3⟩ ⟨List.replicate i 0,[],l7,md,(y4/4%2 == 1),(y4/8%2 == 1),l23,(l15/4*4),0,md,0,0,(⟨ae y0,ae y1,ae y2⟩:KM)⟩):=D.out.cell 6 (VU l23) rfl rfl rfl;clear kk6 ff6 hltv;generalize x20.setCell (AD hb 6) (VU l23)=w20 at D' |-;clear D;have D:=D';clear D';refine HH.out _ hb i nn ⟨ra,rc,none,0,some (AD g1 0),c1,some (AD g2 0),c2,some (AD g3 0),c3⟩ _ _ _ _ _ _ _ _ _ _ _ _ _ _ _ _ _ _ _ _ _ _ _ _ _ _ _ _ _ _ _ _ _ _ _ _ _ _ _ _ _ _ _ _ _ _ _ _ _ _ _ _ _ _ _ _ _ _ _ _ _ _ _ _ _ _ _ _ _ _ _ _ ?_ rfl rfl HSz.out HN2.out _ (by assumption);rw [E4.out,E7.out,E15.out,E23.out,E0.out,E1.out,E2.out,HMd.out,HSc.out];exact D.out
end
end Go.Proofs.YtkenjknmfhoppaaGreat
